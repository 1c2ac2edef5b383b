/-
  Own text. Arguments of layer 13's statements: points.
-/
import Derived.Test.YtajiinecicghkaaDoorS13R
import Derived.Test.YtajiinecicghkaaDoorArr3
import Derived.Test.YtajiinecicghkaaDoorMLay
namespace Go.Proofs.YtajiinecicghkaaDoor.S13C
set_option linter.unusedVariables false
open Go Go.ChangeShapes Go.WideShapes Go.ChangeAt Go.RowKit Go.Proofs.YtajiinecicghkaaDoor.Reg Go.Proofs.YtajiinecicghkaaDoor.Base Go.Proofs.YtajiinecicghkaaDoor.Limb Go.Proofs.YtajiinecicghkaaDoor.Sx Go.Proofs.YtajiinecicghkaaDoor.Fp2 Go.Proofs.YtajiinecicghkaaDoor.S13R
section
variable {H : Type} {enc : TypeId × Value → H} {w : World} {base : Nat} {spare : Nat → Bool} {held : Bool}
set_option maxRecDepth 100000 in
theorem flat_g2 : FlatB enc Tryd.prog w base spare held .u64 29 24 :=
  flatb_two (n := 12) Fp2.flat_fp2 Tryd.underlying4 Tryd.underlying29 (by kernel_rfl) (by kernel_rfl) (by kernel_rfl) (by kernel_rfl)
end
end Go.Proofs.YtajiinecicghkaaDoor.S13C
