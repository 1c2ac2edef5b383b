/-
  Own text. The contracts of layer 4's reference: Bytes.
-/
import Derived.Test.YtmohopjblhgdiaaDoorMFpR
namespace Go.Proofs.YtmohopjblhgdiaaDoor.Fp
set_option linter.unusedVariables false
open Go Go.RowKit Go.Proofs.YtmohopjblhgdiaaDoor.Reg Go.Proofs.YtmohopjblhgdiaaDoor.Base Go.Proofs.YtmohopjblhgdiaaDoor.Limb Go.Proofs.YtmohopjblhgdiaaDoor.Bits

end Go.Proofs.YtmohopjblhgdiaaDoor.Fp
