/-
  Own text. Arguments of layer 13's statements: points.
-/
import Derived.Test.YtpgphhinelljoaaDoorMCu
import Derived.Test.YtpgphhinelljoaaDoorArr3
import Derived.Test.YtpgphhinelljoaaDoorMLay
namespace Go.Proofs.YtpgphhinelljoaaDoor.S13C
set_option linter.unusedVariables false
open Go Go.ChangeShapes Go.WideShapes Go.ChangeAt Go.RowKit Go.Proofs.YtpgphhinelljoaaDoor.Reg Go.Proofs.YtpgphhinelljoaaDoor.Base Go.Proofs.YtpgphhinelljoaaDoor.Limb Go.Proofs.YtpgphhinelljoaaDoor.Sx Go.Proofs.YtpgphhinelljoaaDoor.Fp2 Go.Proofs.YtpgphhinelljoaaDoor.S13R
section
variable {H : Type} {enc : TypeId × Value → H} {w : World} {base : Nat} {spare : Nat → Bool} {held : Bool}
set_option maxRecDepth 100000 in
theorem flat_g2 : FlatB enc Tryd.prog w base spare held .u64 30 24 :=
  flatb_two (n := 12) Fp2.flat_fp2 Tryd.underlying4 Tryd.underlying30 (by kernel_rfl) (by kernel_rfl) (by kernel_rfl) (by kernel_rfl)
end
end Go.Proofs.YtpgphhinelljoaaDoor.S13C
