/-
  Own text. What the landed bodies of layer 7 reckon is what is wanted.
-/
import Derived.Test.YtgdimcnokagddaaDoorFp2Spec
import Derived.Test.YtgdimcnokagddaaDoorFp2Fp
import Derived.Test.YtgdimcnokagddaaDoorFpGD
namespace Go.Proofs.YtgdimcnokagddaaDoor.Fp2
set_option linter.unusedVariables false
set_option linter.unusedSimpArgs false
open Go Go.RowKit Go.Proofs.YtgdimcnokagddaaDoor.Reg Go.Proofs.YtgdimcnokagddaaDoor.Base Go.Proofs.YtgdimcnokagddaaDoor.Limb Go.Proofs.YtgdimcnokagddaaDoor.Fp

section
variable {x : List Int}
theorem pRed (h : Nm 6 x) (w : World) (hG : Glob w) : Calls Tryd.prog 37 #[.agg (vals .u64 x)] w fun e w' => e = .returned (.agg (vals .u64 (Fp.fe (num x)))) ∧ Below w.heap.size w w' := fpReduce_c x h.len h.words w hG
theorem pNeg (h : Nm 6 x) (w : World) (hG : Glob w) : Calls Tryd.prog 38 #[.agg (vals .u64 x)] w fun e w' => e = .returned (.agg (vals .u64 (Fp.fe (-num x)))) ∧ Below w.heap.size w w' := fpNeg_c x h.len h.words w hG
end
end Go.Proofs.YtgdimcnokagddaaDoor.Fp2
