/-
  Own text. Two keyed sums that the statements' head names, reckoned by the kernel.
-/
import Derived.Test.YtkjbfkhiijnemaaHkSpec
namespace Go.Proofs.Ytkjbfkhiijnemaa.Hk
open Go Go.Proofs.Ytkjbfkhiijnemaa.Reg Go.Proofs.Ytkjbfkhiijnemaa.Sha

def foxL : List Int := [84, 104, 101, 32, 113, 117, 105, 99, 107, 32, 98, 114, 111, 119, 110, 32, 102, 111, 120, 32, 106, 117, 109, 112, 115, 32, 111, 118, 101, 114, 32, 116, 104, 101, 32, 108, 97, 122, 121, 32, 100, 111, 103]
def nameL : List Int := [107, 101, 121]
set_option maxRecDepth 100000 in
theorem mac_none : nth (macL [] []) 0 = 182 ∧ nth (macL [] []) 1 = 19 := by decide +kernel
set_option maxRecDepth 100000 in
theorem mac_fox : nth (macL nameL foxL) 0 = 247 ∧ nth (macL nameL foxL) 1 = 188 := by decide +kernel
end Go.Proofs.Ytkjbfkhiijnemaa.Hk
