/-
  Own text. The contract of package limb: Mul.
-/
import Derived.Test.YtmohopjblhgdiaaDoorLimbOwnD
namespace Go.Proofs.YtmohopjblhgdiaaDoor.Limb
open Go Go.RowKit Go.Proofs.YtmohopjblhgdiaaDoor.Reg Go.Proofs.YtmohopjblhgdiaaDoor.Base Go.Proofs.YtmohopjblhgdiaaDoor.Bits

end Go.Proofs.YtmohopjblhgdiaaDoor.Limb
