/-
  Own text.
-/
import Derived.Test.YtjamcbjghffboaaGreatDoorMCu
import Derived.Test.YtjamcbjghffboaaGreatDoorArr3
import Derived.Test.YtjamcbjghffboaaGreatDoorMLay
set_option linter.unusedVariables false
set_option maxRecDepth 100000
namespace Go.Proofs.YtjamcbjghffboaaGreatDoor
namespace S13C
open Go Go.ChangeShapes Go.WideShapes Go.ChangeAt Go.RowKit Reg Base Limb Sx Fp2 S13R
section
variable {H:Type} {enc:TypeId×Value->H} {w:World} {base:Nat} {spare:Nat->Bool} {held:Bool}
theorem flat_g2:FlatB enc Tryz.prog w base spare held .u64 37 24:=
 flatb_two (n:=12) Fp2.flat_fp2 Tryz.underlying4 Tryz.underlying37 (by kernel_rfl) (by kernel_rfl) (by kernel_rfl) (by kernel_rfl)
end
end S13C
end Go.Proofs.YtjamcbjghffboaaGreatDoor
