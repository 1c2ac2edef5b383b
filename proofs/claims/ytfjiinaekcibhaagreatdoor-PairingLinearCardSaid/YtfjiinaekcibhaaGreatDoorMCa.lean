/-
  Own text.
-/
import Derived.Test.YtfjiinaekcibhaaGreatDoorMCu
set_option linter.unusedVariables false
set_option linter.unusedSimpArgs false
namespace Go.Proofs.YtfjiinaekcibhaaGreatDoor
namespace S12S
open Go Go.RowKit Reg Base Limb Sx Fp Fp2 Ec Pts G1K Ey S12R
section
variable {k:Nat} {I:Int} {Q:SR} {T:SS} {A A':Option Addr} {K P:Row} {a:Option Addr} {n:Nat} {l:List Int}
end
end S12S
namespace S13S
open Go Go.RowKit Reg Base Limb Sx Fp Fp2 Ec Pts G2K Ey S13R
section
variable {k:Nat} {I:Int} {Q:SR} {T:SS} {A A':Option Addr} {K P:Row} {a:Option Addr} {n:Nat} {l:List Int}
end
end S13S
end Go.Proofs.YtfjiinaekcibhaaGreatDoor
