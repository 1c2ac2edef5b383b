/-
  Own text. Arguments of layer 12's statements: points.
-/
import Derived.Test.YtmohopjblhgdiaaDoorMCu
import Derived.Test.YtmohopjblhgdiaaDoorArr3
namespace Go.Proofs.YtmohopjblhgdiaaDoor.S12C
set_option linter.unusedVariables false
open Go Go.ChangeShapes Go.WideShapes Go.ChangeAt Go.RowKit Go.Proofs.YtmohopjblhgdiaaDoor.Reg Go.Proofs.YtmohopjblhgdiaaDoor.Base Go.Proofs.YtmohopjblhgdiaaDoor.Limb Go.Proofs.YtmohopjblhgdiaaDoor.Sx Go.Proofs.YtmohopjblhgdiaaDoor.Fp2 Go.Proofs.YtmohopjblhgdiaaDoor.S12R
section
variable {H : Type} {enc : TypeId × Value → H} {w : World} {base : Nat} {spare : Nat → Bool} {held : Bool}
set_option maxRecDepth 100000 in
theorem flat_g1 : FlatB enc Tryd.prog w base spare held .u64 30 12 :=
  flatb_two (n := 6) (flat_arr (flat_int Tryd.underlying22) Tryd.underlying24 (by kernel_rfl) (by kernel_rfl)) Tryd.underlying4 Tryd.underlying30 (by kernel_rfl) (by kernel_rfl) (by kernel_rfl) (by kernel_rfl)
end
end Go.Proofs.YtmohopjblhgdiaaDoor.S12C
