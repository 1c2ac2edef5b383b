/-
  Own text. Arguments of layer 12's statements: points.
-/
import Derived.Test.YtmohopjblhgdiaaGreatDoorMCu
import Derived.Test.YtmohopjblhgdiaaGreatDoorArr3
namespace Go.Proofs.YtmohopjblhgdiaaGreatDoor.S12C
set_option linter.unusedVariables false
open Go Go.ChangeShapes Go.WideShapes Go.ChangeAt Go.RowKit Go.Proofs.YtmohopjblhgdiaaGreatDoor.Reg Go.Proofs.YtmohopjblhgdiaaGreatDoor.Base Go.Proofs.YtmohopjblhgdiaaGreatDoor.Limb Go.Proofs.YtmohopjblhgdiaaGreatDoor.Sx Go.Proofs.YtmohopjblhgdiaaGreatDoor.Fp2 Go.Proofs.YtmohopjblhgdiaaGreatDoor.S12R
section
variable {H : Type} {enc : TypeId × Value → H} {w : World} {base : Nat} {spare : Nat → Bool} {held : Bool}
set_option maxRecDepth 100000 in
theorem flat_g1 : FlatB enc Tryz.prog w base spare held .u64 30 12 :=
  flatb_two (n := 6) (flat_arr (flat_int Tryz.underlying22) Tryz.underlying24 (by kernel_rfl) (by kernel_rfl)) Tryz.underlying4 Tryz.underlying30 (by kernel_rfl) (by kernel_rfl) (by kernel_rfl) (by kernel_rfl)
end
end Go.Proofs.YtmohopjblhgdiaaGreatDoor.S12C
