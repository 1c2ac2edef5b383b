/-
  Own text. The contract of package limb: Mul, its block told whole.
-/
import Derived.Test.YtgdimcnokagddaaDoorLimbOwnE
namespace Go.Proofs.YtgdimcnokagddaaDoor.Limb
open Go Go.RowKit Go.Proofs.YtgdimcnokagddaaDoor.Reg Go.Proofs.YtgdimcnokagddaaDoor.Base Go.Proofs.YtgdimcnokagddaaDoor.Bits

end Go.Proofs.YtgdimcnokagddaaDoor.Limb
