/-
  Own text. The contracts of layer 7's landed package: inverses.
-/
import Derived.Test.YtoogmgckbalboaaDoorFp2Own
import Derived.Test.YtoogmgckbalboaaDoorFpW14
namespace Go.Proofs.YtoogmgckbalboaaDoor.Fp2
set_option linter.unusedVariables false
set_option linter.unusedSimpArgs false
open Go Go.RowKit Go.Proofs.YtoogmgckbalboaaDoor.Reg Go.Proofs.YtoogmgckbalboaaDoor.Base Go.Proofs.YtoogmgckbalboaaDoor.Limb Go.Proofs.YtoogmgckbalboaaDoor.Fp

section
variable {x : List Int}
theorem pInv (h : Nm 6 x) (w : World) (hG : GlobD w) : Calls Tryd.prog 57 #[.agg (vals .u64 x)] w fun e w' => e = .returned (.agg (vals .u64 (Fp.fe (pw (num x) (PP - 2))))) ∧ Below w.heap.size w w' := fpInv_c x h.len h.words w hG
end
theorem inv_v (a : List Int) : E2 (gk (v2 (F2 (gc (v2 a)))) (num (Fp.fe (pw (num (Fp.fe (num (Fp.fe (num (seg 0 6 a) * num (seg 0 6 a))) + num (Fp.fe (num (seg 6 6 a) * num (seg 6 6 a)))))) (PP - 2))))) (gi (v2 a)) := by
  refine gk_congr (v2_F2 _) ?_
  rw [nfe]
  refine pw_congr ?_ _
  rw [nfe, Int.add_emod, nfe, nfe, ← Int.add_emod]
  rfl

end Go.Proofs.YtoogmgckbalboaaDoor.Fp2
