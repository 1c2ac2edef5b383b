/-
  Own text. The contracts of package limb: a word of a place, sums and differences word by word.
-/
import Derived.Test.YtpnpiiocpjbffaaDoorMLimbR
import Derived.Test.YtpnpiiocpjbffaaDoorBits
namespace Go.Proofs.YtpnpiiocpjbffaaDoor.Limb
open Go Go.RowKit Go.Proofs.YtpnpiiocpjbffaaDoor.Reg Go.Proofs.YtpnpiiocpjbffaaDoor.Base Go.Proofs.YtpnpiiocpjbffaaDoor.Bits

end Go.Proofs.YtpnpiiocpjbffaaDoor.Limb
