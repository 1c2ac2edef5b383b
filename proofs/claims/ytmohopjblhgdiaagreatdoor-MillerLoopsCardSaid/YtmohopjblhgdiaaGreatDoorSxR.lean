/-
  Own text. The head of a body by tactics, the rest by the reckoner; numbers of one word, added and multiplied.
-/
import Derived.Test.YtmohopjblhgdiaaGreatDoorMSx
import Derived.Test.YtmohopjblhgdiaaGreatDoorFpGD
import Derived.Test.YtmohopjblhgdiaaGreatDoorLimbMulX
import Derived.Test.YtmohopjblhgdiaaGreatDoorLimbOwnA
import Derived.Test.YtmohopjblhgdiaaGreatDoorLimbOwnB
import Derived.Test.YtmohopjblhgdiaaGreatDoorMReg
namespace Go.Proofs.YtmohopjblhgdiaaGreatDoor.SxR
set_option linter.unusedVariables false
set_option linter.unusedSimpArgs false
open Go Go.RowKit Go.Proofs.YtmohopjblhgdiaaGreatDoor.Reg Go.Proofs.YtmohopjblhgdiaaGreatDoor.Base Go.Proofs.YtmohopjblhgdiaaGreatDoor.Limb Go.Proofs.YtmohopjblhgdiaaGreatDoor.Sx Go.Proofs.YtmohopjblhgdiaaGreatDoor.Fp Go.Proofs.YtmohopjblhgdiaaGreatDoor.Fp2

/-- limb.Mul of one word each. -/
def entMul : Ent3 := fun b0 bl args => match args with
  | [.slc k 0 1 _, .slc j 0 1 _] => match bl k, bl j with
    | some (_, r), some (_, s) => match mg r, mg s with
      | some (1, x), some (1, y) => some (.slc b0 0 2 2, (22, [.nums 2 (wd 2 (num x * num y))]), [])
      | _, _ => none
    | _, _ => none
  | _ => none
/-- What follows the first four parts of a body. -/
def rsN : Nat → Code → Code
  | 0, c => c
  | n + 1, .seq _ b => rsN n b
  | _, c => c
def bodyOf (fn : Func) : Code := match fn.body with
  | some c => c
  | none => .skip
/-- The rest of a body, reckoned from a world on. -/
def evalR (P : Program) (C : Cx) (m N : Nat) (R : Code) (rs : List ResultVar) (sl : List AV) (bs : List Bk) (q : List Bool) : Option (List AV × List Ob) := match evalC P C m N R sl bs q with
  | some (l, obs) => match resL P rs l with
    | some vs => some (vs, obs)
    | none => none
  | none => none
/-- A tail's first world: its own blocks are only read. -/
theorem wd_of {x : World} {gs : List Nat} {bs : List Bk} (hl : gs.length = bs.length) (h : ∀ k t r, bs[k]? = some (t, r) → Has x (gs.getD k 0) t (den r).toArray ∧ Ok r) : Wd x.heap.size x gs.length gs bs x :=
  ⟨RowKit.Below.refl _ _, Nat.le_refl _, hl, fun k t r hk => ⟨by rw [denB_ok (h k t r hk).2]; exact (h k t r hk).1, okB_ok (h k t r hk).2⟩, fun k h1 h2 => absurd h1 (by omega), fun j k h1 h2 h3 _ => absurd h3 (by omega)⟩
end Go.Proofs.YtmohopjblhgdiaaGreatDoor.SxR
