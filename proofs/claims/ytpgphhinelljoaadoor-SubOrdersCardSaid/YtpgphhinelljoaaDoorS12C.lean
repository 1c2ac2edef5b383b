/-
  Own text. Arguments of layer 12's statements: points.
-/
import Derived.Test.YtpgphhinelljoaaDoorMCu
import Derived.Test.YtpgphhinelljoaaDoorArr3
namespace Go.Proofs.YtpgphhinelljoaaDoor.S12C
set_option linter.unusedVariables false
open Go Go.ChangeShapes Go.WideShapes Go.ChangeAt Go.RowKit Go.Proofs.YtpgphhinelljoaaDoor.Reg Go.Proofs.YtpgphhinelljoaaDoor.Base Go.Proofs.YtpgphhinelljoaaDoor.Limb Go.Proofs.YtpgphhinelljoaaDoor.Sx Go.Proofs.YtpgphhinelljoaaDoor.Fp2 Go.Proofs.YtpgphhinelljoaaDoor.S12R
section
variable {H : Type} {enc : TypeId × Value → H} {w : World} {base : Nat} {spare : Nat → Bool} {held : Bool}
set_option maxRecDepth 100000 in
theorem flat_g1 : FlatB enc Tryd.prog w base spare held .u64 26 12 :=
  flatb_two (n := 6) (flat_arr (flat_int Tryd.underlying22) Tryd.underlying24 (by kernel_rfl) (by kernel_rfl)) Tryd.underlying4 Tryd.underlying26 (by kernel_rfl) (by kernel_rfl) (by kernel_rfl) (by kernel_rfl)
end
end Go.Proofs.YtpgphhinelljoaaDoor.S12C
