/-
  Own text.
-/
import Derived.Test.YtjamcbjghffboaaGreatDoorMCu
import Derived.Test.YtjamcbjghffboaaGreatDoorArr3
set_option linter.unusedVariables false
set_option maxRecDepth 100000
namespace Go.Proofs.YtjamcbjghffboaaGreatDoor
namespace S12C
open Go Go.ChangeShapes Go.WideShapes Go.ChangeAt Go.RowKit Reg Base Limb Sx Fp2 S12R
section
variable {H:Type} {enc:TypeId×Value->H} {w:World} {base:Nat} {spare:Nat->Bool} {held:Bool}
theorem flat_g1:FlatB enc Tryz.prog w base spare held .u64 35 12:=
 flatb_two (n:=6) (flat_arr (flat_int Tryz.underlying22) Tryz.underlying24 (by kernel_rfl) (by kernel_rfl)) Tryz.underlying4 Tryz.underlying35 (by kernel_rfl) (by kernel_rfl) (by kernel_rfl) (by kernel_rfl)
end
end S12C
end Go.Proofs.YtjamcbjghffboaaGreatDoor
