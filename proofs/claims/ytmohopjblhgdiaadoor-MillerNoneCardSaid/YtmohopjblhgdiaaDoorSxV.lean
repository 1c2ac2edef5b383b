/-
  Own text. The rest of a drawn region, from some operations on, and what follows it, by the reckoner. Speaks of no program.
-/
import Derived.Test.YtmohopjblhgdiaaDoorSxR
import Derived.Test.YtmohopjblhgdiaaDoorRegV
namespace Go.Proofs.YtmohopjblhgdiaaDoor.SxV
set_option linter.unusedVariables false
set_option linter.unusedSimpArgs false
open Go Go.RowKit Go.Proofs.YtmohopjblhgdiaaDoor.Reg Go.Proofs.YtmohopjblhgdiaaDoor.Base Go.Proofs.YtmohopjblhgdiaaDoor.Sx Go.Proofs.YtmohopjblhgdiaaDoor.SxR
/-- A region's operations. -/
def rg : Code → List Oper
  | .seq (.region _ o _) _ => o.toList
  | _ => []
def L6 (ops : Array Oper) : Array Bool := stm (stm (stm (stm (stm (stm (Array.replicate ops.size false) 1) 3) 0) 2) 4) 5
def evalX (P : Program) (C : Cx) (m N : Nat) (ops : Array Oper) (L : Array Bool) (f : Nat) (R : Code) (rs : List ResultVar) (sl : List AV) (bs : List Bk) (q : List Bool) : Option (List AV × List Ob) :=
  match ex P C m ops f L sl bs with
  | some (outs, o1) => match bindO (evalC P C m N R) (outs.map fun x => (x.1, x.2, q, Ek.nrm)) with
    | some (l, o2) => match resL P rs l with
      | some vs => some (vs, o1 ++ o2)
      | none => none
    | none => none
  | none => none
section
variable {P : Program} {C : Cx} {G : World → Prop} {m N f S : Nat} {fn : Func} {R : Code} {ops : Array Oper} {L : Array Bool} {sl : List AV} {bs : List Bk} {q : List Bool} {gs : List Nat} {a : Act} {w y : World} {obs : List Ob} {vs : List AV} {Q : Ending → World → Prop}
end
end Go.Proofs.YtmohopjblhgdiaaDoor.SxV
