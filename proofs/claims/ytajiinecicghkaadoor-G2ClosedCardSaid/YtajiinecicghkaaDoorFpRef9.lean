/-
  Own text. The contracts of layer 4's reference: Bytes.
-/
import Derived.Test.YtajiinecicghkaaDoorMFpR
namespace Go.Proofs.YtajiinecicghkaaDoor.Fp
set_option linter.unusedVariables false
open Go Go.RowKit Go.Proofs.YtajiinecicghkaaDoor.Reg Go.Proofs.YtajiinecicghkaaDoor.Base Go.Proofs.YtajiinecicghkaaDoor.Limb Go.Proofs.YtajiinecicghkaaDoor.Bits

end Go.Proofs.YtajiinecicghkaaDoor.Fp
