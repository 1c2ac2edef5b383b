/-
  Own text. Numbers with v for the short rules: sizes and types are found by instances.
-/
import Derived.Test.YtpkbbdhpdplkeaaDoorFp2T
import Derived.Test.YtpkbbdhpdplkeaaDoorFp6Eq
namespace Go.Proofs.YtpkbbdhpdplkeaaDoor.Fp6
set_option linter.unusedVariables false
open Go Go.RowKit Go.Proofs.YtpkbbdhpdplkeaaDoor.Reg Go.Proofs.YtpkbbdhpdplkeaaDoor.Limb Go.Proofs.YtpkbbdhpdplkeaaDoor.Fp Go.Proofs.YtpkbbdhpdplkeaaDoor.Fp2
section
variable {x y z : List Int}
instance (p : H) : Nw 36 (F6 p) := ⟨Fp6.Nm.F6 p⟩
instance [h : Nw 36 x] : Nw 12 (seg 0 12 x) := ⟨h.nm.seg (by decide)⟩
instance [h : Nw 36 x] : Nw 12 (seg 12 12 x) := ⟨h.nm.seg (by decide)⟩
instance [h : Nw 36 x] : Nw 12 (seg 24 12 x) := ⟨h.nm.seg (by decide)⟩
instance [h : Nw 12 x] [k : Nw 12 y] [j : Nw 12 z] : Nw 36 (x ++ y ++ z) := ⟨(h.nm.app k.nm).app j.nm⟩
instance : Nw 36 Z36 := ⟨Fp6.nm_Z36⟩
instance : Agg Tryd.prog 28 36 := .of Tryd.underlying28 (by kernel_rfl) rfl
instance : Eqs Tryd.prog 28 36 := ⟨eqokh, gdh⟩
theorem b36 [h : Nw 12 x] [k : Nw 12 y] [j : Nw 12 z] : Tryd.prog.built 28 [(0, .agg (vals .u64 x)), (1, .agg (vals .u64 y)), (2, .agg (vals .u64 z))] = some (vals .u64 (x ++ y ++ z)) := build3 h.nm k.nm j.nm
end
end Go.Proofs.YtpkbbdhpdplkeaaDoor.Fp6
