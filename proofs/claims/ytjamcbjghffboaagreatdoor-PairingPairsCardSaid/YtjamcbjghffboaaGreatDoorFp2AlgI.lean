/-
  Own text.
-/
import Derived.Test.YtjamcbjghffboaaGreatDoorMFp2
import Derived.Test.YtjamcbjghffboaaGreatDoorMFw5
set_option linter.unusedVariables false
set_option linter.unusedSimpArgs false
namespace Go.Proofs.YtjamcbjghffboaaGreatDoor
namespace Fp2
open Go Go.RowKit Reg Base Limb Fp
section
variable {x:List Int}
theorem pInv (h:Nm 6 x)(w:World)(hG:GlobD w):Calls Tryz.prog 127 #[.agg (vals .u64 x)] w fun e w'=>e=.returned (.agg (vals .u64 (Fp.fe (pw (num x) (PP-2)))))/\Below w.heap.size w w':=fpInv_c x h.len h.words w hG
end
end Fp2
end Go.Proofs.YtjamcbjghffboaaGreatDoor
