/-
  Own text. Arguments of layer 12's statements: points.
-/
import Derived.Test.YtpgphhinelljoaaGreatDoorMCu
import Derived.Test.YtpgphhinelljoaaGreatDoorArr3
namespace Go.Proofs.YtpgphhinelljoaaGreatDoor.S12C
set_option linter.unusedVariables false
open Go Go.ChangeShapes Go.WideShapes Go.ChangeAt Go.RowKit Go.Proofs.YtpgphhinelljoaaGreatDoor.Reg Go.Proofs.YtpgphhinelljoaaGreatDoor.Base Go.Proofs.YtpgphhinelljoaaGreatDoor.Limb Go.Proofs.YtpgphhinelljoaaGreatDoor.Sx Go.Proofs.YtpgphhinelljoaaGreatDoor.Fp2 Go.Proofs.YtpgphhinelljoaaGreatDoor.S12R
section
variable {H : Type} {enc : TypeId × Value → H} {w : World} {base : Nat} {spare : Nat → Bool} {held : Bool}
set_option maxRecDepth 100000 in
theorem flat_g1 : FlatB enc Tryz.prog w base spare held .u64 26 12 :=
  flatb_two (n := 6) (flat_arr (flat_int Tryz.underlying22) Tryz.underlying24 (by kernel_rfl) (by kernel_rfl)) Tryz.underlying4 Tryz.underlying26 (by kernel_rfl) (by kernel_rfl) (by kernel_rfl) (by kernel_rfl)
end
end Go.Proofs.YtpgphhinelljoaaGreatDoor.S12C
