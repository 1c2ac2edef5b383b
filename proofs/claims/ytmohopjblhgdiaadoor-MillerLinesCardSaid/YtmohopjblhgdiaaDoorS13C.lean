/-
  Own text. Arguments of layer 13's statements: points.
-/
import Derived.Test.YtmohopjblhgdiaaDoorMCu
import Derived.Test.YtmohopjblhgdiaaDoorArr3
import Derived.Test.YtmohopjblhgdiaaDoorMLay
namespace Go.Proofs.YtmohopjblhgdiaaDoor.S13C
set_option linter.unusedVariables false
open Go Go.ChangeShapes Go.WideShapes Go.ChangeAt Go.RowKit Go.Proofs.YtmohopjblhgdiaaDoor.Reg Go.Proofs.YtmohopjblhgdiaaDoor.Base Go.Proofs.YtmohopjblhgdiaaDoor.Limb Go.Proofs.YtmohopjblhgdiaaDoor.Sx Go.Proofs.YtmohopjblhgdiaaDoor.Fp2 Go.Proofs.YtmohopjblhgdiaaDoor.S13R
section
variable {H : Type} {enc : TypeId × Value → H} {w : World} {base : Nat} {spare : Nat → Bool} {held : Bool}
set_option maxRecDepth 100000 in
theorem flat_g2 : FlatB enc Tryd.prog w base spare held .u64 28 24 :=
  flatb_two (n := 12) Fp2.flat_fp2 Tryd.underlying4 Tryd.underlying28 (by kernel_rfl) (by kernel_rfl) (by kernel_rfl) (by kernel_rfl)
end
end Go.Proofs.YtmohopjblhgdiaaDoor.S13C
