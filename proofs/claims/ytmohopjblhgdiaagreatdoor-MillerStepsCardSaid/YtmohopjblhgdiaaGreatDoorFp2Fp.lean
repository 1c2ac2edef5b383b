/-
  Own text. What layer 7's statements ask of the landed layer 4; lemmas on conjugates and parts.
-/
import Derived.Test.YtmohopjblhgdiaaGreatDoorFpW8
import Derived.Test.YtmohopjblhgdiaaGreatDoorFp2Lem
namespace Go.Proofs.YtmohopjblhgdiaaGreatDoor.Fp2
set_option linter.unusedVariables false
open Go Go.RowKit Go.Proofs.YtmohopjblhgdiaaGreatDoor.Reg Go.Proofs.YtmohopjblhgdiaaGreatDoor.Base Go.Proofs.YtmohopjblhgdiaaGreatDoor.Limb Go.Proofs.YtmohopjblhgdiaaGreatDoor.Fp
section
variable {x y : List Int}
theorem pAdd (h : Nm 6 x) (h' : Nm 6 y) (w : World) (hG : Glob w) : Calls Tryz.prog 60 #[.agg (vals .u64 x), .agg (vals .u64 y)] w fun e w' => e = .returned (.agg (vals .u64 (fe (num x + num y)))) ∧ Below w.heap.size w w' := fpAdd_c x h.len h.words y h'.len h'.words w hG
theorem pSub (h : Nm 6 x) (h' : Nm 6 y) (w : World) (hG : Glob w) : Calls Tryz.prog 59 #[.agg (vals .u64 x), .agg (vals .u64 y)] w fun e w' => e = .returned (.agg (vals .u64 (fe (num x - num y)))) ∧ Below w.heap.size w w' := fpSub_c x h.len h.words y h'.len h'.words w hG
theorem pMul (h : Nm 6 x) (h' : Nm 6 y) (w : World) (hG : Glob w) : Calls Tryz.prog 55 #[.agg (vals .u64 x), .agg (vals .u64 y)] w fun e w' => e = .returned (.agg (vals .u64 (fe (num x * num y)))) ∧ Below w.heap.size w w' := fpMul_c x h.len h.words y h'.len h'.words w hG
end
end Go.Proofs.YtmohopjblhgdiaaGreatDoor.Fp2
