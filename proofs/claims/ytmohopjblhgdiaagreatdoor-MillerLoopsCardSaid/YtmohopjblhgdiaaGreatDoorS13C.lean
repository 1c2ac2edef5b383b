/-
  Own text. Arguments of layer 13's statements: points.
-/
import Derived.Test.YtmohopjblhgdiaaGreatDoorMCu
import Derived.Test.YtmohopjblhgdiaaGreatDoorArr3
import Derived.Test.YtmohopjblhgdiaaGreatDoorMLay
namespace Go.Proofs.YtmohopjblhgdiaaGreatDoor.S13C
set_option linter.unusedVariables false
open Go Go.ChangeShapes Go.WideShapes Go.ChangeAt Go.RowKit Go.Proofs.YtmohopjblhgdiaaGreatDoor.Reg Go.Proofs.YtmohopjblhgdiaaGreatDoor.Base Go.Proofs.YtmohopjblhgdiaaGreatDoor.Limb Go.Proofs.YtmohopjblhgdiaaGreatDoor.Sx Go.Proofs.YtmohopjblhgdiaaGreatDoor.Fp2 Go.Proofs.YtmohopjblhgdiaaGreatDoor.S13R
section
variable {H : Type} {enc : TypeId × Value → H} {w : World} {base : Nat} {spare : Nat → Bool} {held : Bool}
set_option maxRecDepth 100000 in
theorem flat_g2 : FlatB enc Tryz.prog w base spare held .u64 28 24 :=
  flatb_two (n := 12) Fp2.flat_fp2 Tryz.underlying4 Tryz.underlying28 (by kernel_rfl) (by kernel_rfl) (by kernel_rfl) (by kernel_rfl)
end
end Go.Proofs.YtmohopjblhgdiaaGreatDoor.S13C
