/-
  Own text. Arguments of layer 12's statements: points.
-/
import Derived.Test.YtgdimcnokagddaaDoorS12R
import Derived.Test.YtgdimcnokagddaaDoorArr3
namespace Go.Proofs.YtgdimcnokagddaaDoor.S12C
set_option linter.unusedVariables false
open Go Go.ChangeShapes Go.WideShapes Go.ChangeAt Go.RowKit Go.Proofs.YtgdimcnokagddaaDoor.Reg Go.Proofs.YtgdimcnokagddaaDoor.Base Go.Proofs.YtgdimcnokagddaaDoor.Limb Go.Proofs.YtgdimcnokagddaaDoor.Sx Go.Proofs.YtgdimcnokagddaaDoor.Fp2 Go.Proofs.YtgdimcnokagddaaDoor.S12R
section
variable {H : Type} {enc : TypeId × Value → H} {w : World} {base : Nat} {spare : Nat → Bool} {held : Bool}
set_option maxRecDepth 100000 in
theorem flat_g1 : FlatB enc Tryd.prog w base spare held .u64 27 12 :=
  flatb_two (n := 6) (flat_arr (flat_int Tryd.underlying23) Tryd.underlying25 (by kernel_rfl) (by kernel_rfl)) Tryd.underlying4 Tryd.underlying27 (by kernel_rfl) (by kernel_rfl) (by kernel_rfl) (by kernel_rfl)
end
end Go.Proofs.YtgdimcnokagddaaDoor.S12C
