/-
  Own text. The contract of package limb: Mul, its block told whole.
-/
import Derived.Test.YtmohopjblhgdiaaDoorLimbOwnE
namespace Go.Proofs.YtmohopjblhgdiaaDoor.Limb
open Go Go.RowKit Go.Proofs.YtmohopjblhgdiaaDoor.Reg Go.Proofs.YtmohopjblhgdiaaDoor.Base Go.Proofs.YtmohopjblhgdiaaDoor.Bits

end Go.Proofs.YtmohopjblhgdiaaDoor.Limb
