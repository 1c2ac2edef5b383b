/-
  Own text. '==' on numbers with u.
-/
import Derived.Test.YtgdimcnokagddaaDoorMRegT
import Derived.Test.YtgdimcnokagddaaDoorFp2Spec
namespace Go.Proofs.YtgdimcnokagddaaDoor.Fp2
set_option maxRecDepth 100000
open Go Go.RowKit Go.Proofs.YtgdimcnokagddaaDoor.Reg
end Go.Proofs.YtgdimcnokagddaaDoor.Fp2
