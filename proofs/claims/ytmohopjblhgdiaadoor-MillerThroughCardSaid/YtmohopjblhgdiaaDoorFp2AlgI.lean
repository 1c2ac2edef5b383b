/-
  Own text. Inverses of package fp.
-/
import Derived.Test.YtmohopjblhgdiaaDoorFp2Alg
import Derived.Test.YtmohopjblhgdiaaDoorFpW14
namespace Go.Proofs.YtmohopjblhgdiaaDoor.Fp2
set_option linter.unusedVariables false
set_option linter.unusedSimpArgs false
open Go Go.RowKit Go.Proofs.YtmohopjblhgdiaaDoor.Reg Go.Proofs.YtmohopjblhgdiaaDoor.Base Go.Proofs.YtmohopjblhgdiaaDoor.Limb Go.Proofs.YtmohopjblhgdiaaDoor.Fp

section
variable {x : List Int}
theorem pInv (h : Nm 6 x) (w : World) (hG : GlobD w) : Calls Tryd.prog 18 #[.agg (vals .u64 x)] w fun e w' => e = .returned (.agg (vals .u64 (Fp.fe (pw (num x) (PP - 2))))) ∧ Below w.heap.size w w' := fpInv_c x h.len h.words w hG
end
end Go.Proofs.YtmohopjblhgdiaaDoor.Fp2
