/-
  Own text. Inverses of package fp.
-/
import Derived.Test.YtpgphhinelljoaaGreatDoorFp2Alg
import Derived.Test.YtpgphhinelljoaaGreatDoorFpW14
namespace Go.Proofs.YtpgphhinelljoaaGreatDoor.Fp2
set_option linter.unusedVariables false
set_option linter.unusedSimpArgs false
open Go Go.RowKit Go.Proofs.YtpgphhinelljoaaGreatDoor.Reg Go.Proofs.YtpgphhinelljoaaGreatDoor.Base Go.Proofs.YtpgphhinelljoaaGreatDoor.Limb Go.Proofs.YtpgphhinelljoaaGreatDoor.Fp

section
variable {x : List Int}
theorem pInv (h : Nm 6 x) (w : World) (hG : GlobD w) : Calls Tryz.prog 95 #[.agg (vals .u64 x)] w fun e w' => e = .returned (.agg (vals .u64 (Fp.fe (pw (num x) (PP - 2))))) ∧ Below w.heap.size w w' := fpInv_c x h.len h.words w hG
end
end Go.Proofs.YtpgphhinelljoaaGreatDoor.Fp2
