/-
  Own text. The contracts of layer 4's reference: Bytes.
-/
import Derived.Test.YtgdimcnokagddaaDoorMFpR
namespace Go.Proofs.YtgdimcnokagddaaDoor.Fp
set_option linter.unusedVariables false
open Go Go.RowKit Go.Proofs.YtgdimcnokagddaaDoor.Reg Go.Proofs.YtgdimcnokagddaaDoor.Base Go.Proofs.YtgdimcnokagddaaDoor.Limb Go.Proofs.YtgdimcnokagddaaDoor.Bits

end Go.Proofs.YtgdimcnokagddaaDoor.Fp
