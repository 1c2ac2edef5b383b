/-
  Own text. A region that draws its order: a slice written out, a slice appended to it, another slice written out, appended; a variable made at any time. Speaks of no program.
-/
import Derived.Test.YtmohopjblhgdiaaDoorMRegT
import Derived.Test.YtmohopjblhgdiaaDoorMReg
import Derived.Great.Frames
namespace Go.Proofs.YtmohopjblhgdiaaDoor.Reg
set_option linter.unusedVariables false
set_option linter.unusedSimpArgs false
open Go Go.RowKit Go.Proofs.YtmohopjblhgdiaaDoor.Base
section
variable {P : Program} {ops : Array Oper} {md : Region.Mode} {Q : Exit → Act → World → Prop}
/-- Blocks of other types are not the slice's. -/
theorem Own.apart {y : World} {base : Nat} {e t : TypeId} {k : IntKind} {A : Option Addr} {n c q : Nat} {xs : List Int} {z : Array Value} (h : Own y base e k A n c xs) (hq : Has y q t z) (hne : t ≠ e) : ∀ g, A = some ⟨g, 0, none⟩ → q ≠ g := by
  rintro g rfl rfl
  rcases h.own.2 with ⟨hv, _⟩ | ⟨g', cap, cur, hv, hg, hh, r⟩
  · injection hv with h1
    cases h1
  · injection hv with h1
    injection h1 with h1
    injection h1 with h1
    subst h1
    have := hq.eq.symm.trans hh
    injection this with this
    injection this with _ this
    exact hne this
def stm (M : Array Bool) (p : Nat) : Array Bool := M.setIfInBounds p true
/-- The variable: made by now or not. -/
def stE (n : Nat) (M : Array Bool) : Option Nat → Array Bool
  | none => M
  | some _ => stm M n
def dnE (d : Nat) (a : Act) : Option Nat → Act
  | none => a
  | some g => a.put (some d) (.pointer (some ⟨g, 0, none⟩))
def kpE (B : Nat) (t : TypeId) (z : Array Value) (y : World) : Option Nat → Prop
  | none => True
  | some g => Has y g t z ∧ B ≤ g
def rdE (n : Nat) (l : List Nat) : Option Nat → List Nat
  | none => l ++ [n]
  | some _ => l
def gE (y : World) : Option Nat → Nat
  | none => y.heap.size
  | some g => g
def fE (f : Nat) : Option Nat → Nat
  | none => f + 1
  | some _ => f
theorem kpE.keep {B : Nat} {t : TypeId} {z : Array Value} {y y' : World} : ∀ {E}, kpE B t z y E → RowKit.Below y.heap.size y y' → kpE B t z y' E
  | none, _, _ => trivial
  | some _, h, hb => ⟨h.1.keep hb, h.2⟩
def appB (md : Region.Mode) (ops : Array Oper) (L : Array Bool) (i j k m n : Nat) : Bool :=
  [none, some 0].all (fun E => let M := stE n L E
    decide (Region.ready md ops M = rdE n [i, k] E) && decide (Region.ready md ops (stm M i) = rdE n [j, k] E) && decide (Region.ready md ops (stm (stm M i) j) = rdE n [k] E) && decide (Region.ready md ops (stm (stm (stm M i) j) k) = rdE n [m] E)
    && decide (Region.ready md ops (stm (stm M i) k) = rdE n [j] E) && decide (Region.ready md ops (stm M k) = rdE n [i] E) && decide (stm (stm M k) i = stm (stm M i) k) && decide (stm (stm (stm M i) k) j = stm (stm (stm M i) j) k))
  && (let M := stm L n; decide (stm (stm L i) n = stm M i) && decide (stm (stm (stm L i) j) n = stm (stm M i) j) && decide (stm (stm (stm (stm L i) j) k) n = stm (stm (stm M i) j) k) && decide (stm (stm (stm L i) k) n = stm (stm M i) k) && decide (stm (stm L k) n = stm M k))
end
end Go.Proofs.YtmohopjblhgdiaaDoor.Reg
