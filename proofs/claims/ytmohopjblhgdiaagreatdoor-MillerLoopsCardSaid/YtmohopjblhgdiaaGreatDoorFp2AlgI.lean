/-
  Own text. Inverses of package fp.
-/
import Derived.Test.YtmohopjblhgdiaaGreatDoorFp2Alg
import Derived.Test.YtmohopjblhgdiaaGreatDoorFpW14
namespace Go.Proofs.YtmohopjblhgdiaaGreatDoor.Fp2
set_option linter.unusedVariables false
set_option linter.unusedSimpArgs false
open Go Go.RowKit Go.Proofs.YtmohopjblhgdiaaGreatDoor.Reg Go.Proofs.YtmohopjblhgdiaaGreatDoor.Base Go.Proofs.YtmohopjblhgdiaaGreatDoor.Limb Go.Proofs.YtmohopjblhgdiaaGreatDoor.Fp

section
variable {x : List Int}
theorem pInv (h : Nm 6 x) (w : World) (hG : GlobD w) : Calls Tryz.prog 62 #[.agg (vals .u64 x)] w fun e w' => e = .returned (.agg (vals .u64 (Fp.fe (pw (num x) (PP - 2))))) ∧ Below w.heap.size w w' := fpInv_c x h.len h.words w hG
end
end Go.Proofs.YtmohopjblhgdiaaGreatDoor.Fp2
