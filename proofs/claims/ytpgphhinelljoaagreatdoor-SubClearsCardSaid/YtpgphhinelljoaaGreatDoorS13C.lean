/-
  Own text. Arguments of layer 13's statements: points.
-/
import Derived.Test.YtpgphhinelljoaaGreatDoorMCu
import Derived.Test.YtpgphhinelljoaaGreatDoorArr3
import Derived.Test.YtpgphhinelljoaaGreatDoorMLay
namespace Go.Proofs.YtpgphhinelljoaaGreatDoor.S13C
set_option linter.unusedVariables false
open Go Go.ChangeShapes Go.WideShapes Go.ChangeAt Go.RowKit Go.Proofs.YtpgphhinelljoaaGreatDoor.Reg Go.Proofs.YtpgphhinelljoaaGreatDoor.Base Go.Proofs.YtpgphhinelljoaaGreatDoor.Limb Go.Proofs.YtpgphhinelljoaaGreatDoor.Sx Go.Proofs.YtpgphhinelljoaaGreatDoor.Fp2 Go.Proofs.YtpgphhinelljoaaGreatDoor.S13R
section
variable {H : Type} {enc : TypeId × Value → H} {w : World} {base : Nat} {spare : Nat → Bool} {held : Bool}
set_option maxRecDepth 100000 in
theorem flat_g2 : FlatB enc Tryz.prog w base spare held .u64 36 24 :=
  flatb_two (n := 12) Fp2.flat_fp2 Tryz.underlying4 Tryz.underlying36 (by kernel_rfl) (by kernel_rfl) (by kernel_rfl) (by kernel_rfl)
end
end Go.Proofs.YtpgphhinelljoaaGreatDoor.S13C
