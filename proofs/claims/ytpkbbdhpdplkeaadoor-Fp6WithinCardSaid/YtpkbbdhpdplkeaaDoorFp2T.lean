/-
  Own text. Numbers with u for the short rules: sizes and types are found by instances.
-/
import Derived.Test.YtpkbbdhpdplkeaaDoorMRegT
import Derived.Test.YtpkbbdhpdplkeaaDoorFp2Eq
namespace Go.Proofs.YtpkbbdhpdplkeaaDoor.Fp2
set_option linter.unusedVariables false
open Go Go.RowKit Go.Proofs.YtpkbbdhpdplkeaaDoor.Reg Go.Proofs.YtpkbbdhpdplkeaaDoor.Limb Go.Proofs.YtpkbbdhpdplkeaaDoor.Fp
/-- A number of n words. -/
class Nw (n : outParam Nat) (xs : List Int) : Prop where
  nm : Nm n xs
section
variable {n : Nat} {x y : List Int}
theorem nw [h : Nw n x] : Nm n x := h.nm
instance [h : Nw n x] : Cz n (vals .u64 x) := ⟨by rw [vals_size]; exact h.nm.len, vals_one⟩
instance (v : Int) : Nw 6 (Fp.fe v) := ⟨.fe v⟩
instance (p : G) : Nw 12 (F2 p) := ⟨.F2 p⟩
instance [h : Nw 12 x] : Nw 6 (seg 0 6 x) := ⟨h.nm.seg (by decide)⟩
instance [h : Nw 12 x] : Nw 6 (seg 6 6 x) := ⟨h.nm.seg (by decide)⟩
instance [h : Nw 6 x] [k : Nw 6 y] : Nw 12 (x ++ y) := ⟨h.nm.app2 k.nm⟩
instance : Nw 6 Z6 := ⟨nm_Z6⟩
instance : Nw 12 Z12 := ⟨nm_Z12⟩
instance : Nw 6 [1, 0, 0, 0, 0, 0] := ⟨nm_one⟩
instance : Nw 6 [2, 0, 0, 0, 0, 0] := ⟨nm_two⟩
instance : Mix Tryd.prog := ⟨by kernel_rfl⟩
instance : Agg Tryd.prog 24 6 := .of Tryd.underlying24 (by kernel_rfl) rfl
instance : Agg Tryd.prog 26 12 := .of Tryd.underlying26 (by kernel_rfl) rfl
instance : Eqs Tryd.prog 26 12 := ⟨eqok2, gd2⟩
theorem b12 [h : Nw 6 x] [k : Nw 6 y] : Tryd.prog.built 26 [(0, .agg (vals .u64 x)), (1, .agg (vals .u64 y))] = some (vals .u64 (x ++ y)) := built_two built2 h.nm.len k.nm.len
end
end Go.Proofs.YtpkbbdhpdplkeaaDoor.Fp2
