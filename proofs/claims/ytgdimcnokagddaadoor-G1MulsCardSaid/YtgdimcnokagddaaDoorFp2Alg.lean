/-
  Own text. What the landed bodies of layer 7 reckon is what is wanted.
-/
import Derived.Test.YtgdimcnokagddaaDoorFp2Spec
import Derived.Test.YtgdimcnokagddaaDoorFp2Fp
import Derived.Test.YtgdimcnokagddaaDoorFpGD
namespace Go.Proofs.YtgdimcnokagddaaDoor.Fp2
set_option linter.unusedVariables false
set_option linter.unusedSimpArgs false
open Go Go.RowKit Go.Proofs.YtgdimcnokagddaaDoor.Reg Go.Proofs.YtgdimcnokagddaaDoor.Base Go.Proofs.YtgdimcnokagddaaDoor.Limb Go.Proofs.YtgdimcnokagddaaDoor.Fp

section
variable {x : List Int}
theorem pRed (h : Nm 6 x) (w : World) (hG : Glob w) : Calls Tryd.prog 37 #[.agg (vals .u64 x)] w fun e w' => e = .returned (.agg (vals .u64 (Fp.fe (num x)))) ∧ Below w.heap.size w w' := fpReduce_c x h.len h.words w hG
theorem pNeg (h : Nm 6 x) (w : World) (hG : Glob w) : Calls Tryd.prog 38 #[.agg (vals .u64 x)] w fun e w' => e = .returned (.agg (vals .u64 (Fp.fe (-num x)))) ∧ Below w.heap.size w w' := fpNeg_c x h.len h.words w hG
end
theorem nfe (x : Int) : num (Fp.fe x) % PP = x % PP := by rw [num_fe, Int.emod_emod]
theorem mul_b (p q x y : Int) : Fp.fe (num (Fp.fe (num (Fp.fe p) * num (Fp.fe q))) - num (Fp.fe (num (Fp.fe x) + num (Fp.fe y)))) = Fp.fe (p * q - (x + y)) := by
  rw [fe_subl, fe_subr]
  refine fe_congr ?_
  have h1 := mulm (nfe p) (nfe q)
  have h2 : (num (Fp.fe x) + num (Fp.fe y)) % PP = (x + y) % PP := by rw [Int.add_emod, nfe, nfe, ← Int.add_emod]
  rw [Int.sub_emod, h1, h2, ← Int.sub_emod]
end Go.Proofs.YtgdimcnokagddaaDoor.Fp2
