/-
  Own text. What is asked of the package-level variables that are reached.
-/
import Derived.Test.YtmohopjblhgdiaaGreatDoorFpW2
namespace Go.Proofs.YtmohopjblhgdiaaGreatDoor.Fp
set_option linter.unusedVariables false
open Go Go.RowKit Go.Proofs.YtmohopjblhgdiaaGreatDoor.Reg Go.Proofs.YtmohopjblhgdiaaGreatDoor.Base Go.Proofs.YtmohopjblhgdiaaGreatDoor.Limb Go.Proofs.YtmohopjblhgdiaaGreatDoor.Bits
def dbL : List Int := [0, 1, 56, 2, 57, 49, 28, 3, 61, 58, 42, 50, 38, 29, 17, 4, 62, 47, 59, 36, 45, 43, 51, 22, 53, 39, 33, 30, 24, 18, 12, 5, 63, 55, 48, 27, 60, 41, 37, 16, 46, 35, 44, 21, 52, 32, 23, 11, 54, 26, 40, 15, 34, 20, 31, 10, 25, 14, 19, 9, 13, 8, 7, 6]
/-- The package-level variables that are asked for, besides. -/
structure GlobD (w : World) : Prop extends Glob w where
  d : ∃ t, Has w 2 t (vals .u8 dbL)
structure FreeD (g : Nat) : Prop extends Free g where
  d : g ≠ 2
section
variable {w w' : World} {g : Nat}
theorem GlobD.keep (h : GlobD w) (hb : Below w.heap.size w w') : GlobD w' :=
  ⟨h.toGlob.keep hb, h.d.imp fun _ h => h.keep hb⟩
theorem GlobD.only (h : GlobD w) (hb : Only g w w') (hf : FreeD g) : GlobD w' :=
  ⟨h.toGlob.only hb hf.toFree, h.d.imp fun _ h => hb.has h hf.d.symm⟩
theorem GlobD.free (h : GlobD w) (hg : w.heap.size ≤ g) : FreeD g := by
  obtain ⟨_, hd⟩ := h.d
  have gd := hd.lt
  exact ⟨h.toGlob.free hg, by omega⟩
end
end Go.Proofs.YtmohopjblhgdiaaGreatDoor.Fp
