/-
  Own text. What is asked of the package-level variables that are reached.
-/
import Derived.Test.YtpgphhinelljoaaGreatDoorFpW2
namespace Go.Proofs.YtpgphhinelljoaaGreatDoor.Fp
set_option linter.unusedVariables false
open Go Go.RowKit Go.Proofs.YtpgphhinelljoaaGreatDoor.Reg Go.Proofs.YtpgphhinelljoaaGreatDoor.Base Go.Proofs.YtpgphhinelljoaaGreatDoor.Limb Go.Proofs.YtpgphhinelljoaaGreatDoor.Bits
def bbL : List Int := [3315212275698040830, 16003497378645147650, 15975298377956497032, 13432485098755684330, 6852621763331149393, 0]
def bxL : List Int := [0, 0, 0, 0, 0, 0, 10087218740379822765, 4653388206581612541, 9907120269317136283, 12253596935368579796, 17006226088849104517, 1873798617647539865]
def byL : List Int := [17433006465011670690, 3478017852528130570, 17237919592439788638, 2035044123721977696, 16350815739277094105, 1392179521213474446, 14416168624775744521, 17178867732698629620, 8644499054833844677, 5204293836692734814, 7508032112903159806, 481619096434065419]
def dbL : List Int := [0, 1, 56, 2, 57, 49, 28, 3, 61, 58, 42, 50, 38, 29, 17, 4, 62, 47, 59, 36, 45, 43, 51, 22, 53, 39, 33, 30, 24, 18, 12, 5, 63, 55, 48, 27, 60, 41, 37, 16, 46, 35, 44, 21, 52, 32, 23, 11, 54, 26, 40, 15, 34, 20, 31, 10, 25, 14, 19, 9, 13, 8, 7, 6]
/-- The package-level variables that are asked for, besides. -/
structure GlobD (w : World) : Prop extends Glob w where
  d : ∃ t, Has w 7 t (vals .u8 dbL)
  x1 : ∃ t, Has w 0 t (vals .u64 bbL)
  x2 : ∃ t, Has w 1 t (vals .u64 bxL)
  x3 : ∃ t, Has w 2 t (vals .u64 byL)
structure FreeD (g : Nat) : Prop extends Free g where
  d : g ≠ 7
  x1 : g ≠ 0
  x2 : g ≠ 1
  x3 : g ≠ 2
section
variable {w w' : World} {g : Nat}
theorem GlobD.keep (h : GlobD w) (hb : Below w.heap.size w w') : GlobD w' :=
  ⟨h.toGlob.keep hb, h.d.imp fun _ h => h.keep hb, h.x1.imp fun _ h => h.keep hb, h.x2.imp fun _ h => h.keep hb, h.x3.imp fun _ h => h.keep hb⟩
theorem GlobD.only (h : GlobD w) (hb : Only g w w') (hf : FreeD g) : GlobD w' :=
  ⟨h.toGlob.only hb hf.toFree, h.d.imp fun _ h => hb.has h hf.d.symm, h.x1.imp fun _ h => hb.has h hf.x1.symm, h.x2.imp fun _ h => hb.has h hf.x2.symm, h.x3.imp fun _ h => hb.has h hf.x3.symm⟩
theorem GlobD.free (h : GlobD w) (hg : w.heap.size ≤ g) : FreeD g := by
  obtain ⟨_, hd⟩ := h.d
  have gd := hd.lt
  obtain ⟨_, hx1⟩ := h.x1
  have gx1 := hx1.lt
  obtain ⟨_, hx2⟩ := h.x2
  have gx2 := hx2.lt
  obtain ⟨_, hx3⟩ := h.x3
  have gx3 := hx3.lt
  exact ⟨h.toGlob.free hg, by omega, by omega, by omega, by omega⟩
end
end Go.Proofs.YtpgphhinelljoaaGreatDoor.Fp
