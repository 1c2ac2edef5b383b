/-
  Own text. The head of a body by tactics, the rest by the reckoner; numbers of one word, added and multiplied.
-/
import Derived.Test.YtmohopjblhgdiaaDoorMSx
import Derived.Test.YtmohopjblhgdiaaDoorFpGD
import Derived.Test.YtmohopjblhgdiaaDoorLimbMulX
import Derived.Test.YtmohopjblhgdiaaDoorLimbOwnA
import Derived.Test.YtmohopjblhgdiaaDoorLimbOwnB
import Derived.Test.YtmohopjblhgdiaaDoorMReg
namespace Go.Proofs.YtmohopjblhgdiaaDoor.SxR
set_option linter.unusedVariables false
set_option linter.unusedSimpArgs false
open Go Go.RowKit Go.Proofs.YtmohopjblhgdiaaDoor.Reg Go.Proofs.YtmohopjblhgdiaaDoor.Base Go.Proofs.YtmohopjblhgdiaaDoor.Limb Go.Proofs.YtmohopjblhgdiaaDoor.Sx Go.Proofs.YtmohopjblhgdiaaDoor.Fp Go.Proofs.YtmohopjblhgdiaaDoor.Fp2

/-- limb.Mul of one word each. -/
def entMul : Ent3 := fun b0 bl args => match args with
  | [.slc k 0 1 _, .slc j 0 1 _] => match bl k, bl j with
    | some (_, r), some (_, s) => match mg r, mg s with
      | some (1, x), some (1, y) => some (.slc b0 0 2 2, (22, [.nums 2 (wd 2 (num x * num y))]), [])
      | _, _ => none
    | _, _ => none
  | _ => none
/-- What follows the first four parts of a body. -/
def rsN : Nat → Code → Code
  | 0, c => c
  | n + 1, .seq _ b => rsN n b
  | _, c => c
def bodyOf (fn : Func) : Code := match fn.body with
  | some c => c
  | none => .skip
/-- The rest of a body, reckoned from a world on. -/
def evalR (P : Program) (C : Cx) (m N : Nat) (R : Code) (rs : List ResultVar) (sl : List AV) (bs : List Bk) (q : List Bool) : Option (List AV × List Ob) := match evalC P C m N R sl bs q with
  | some (l, obs) => match resL P rs l with
    | some vs => some (vs, obs)
    | none => none
  | none => none
end Go.Proofs.YtmohopjblhgdiaaDoor.SxR
