/-
  Own text. The contracts of layer 7's reference: Pow.
-/
import Derived.Test.YtpkbbdhpdplkeaaDoorFp2Ref
import Derived.Test.YtpkbbdhpdplkeaaDoorMLimbR
import Derived.Deep.LoopGhost
namespace Go.Proofs.YtpkbbdhpdplkeaaDoor.Fp2
set_option linter.unusedVariables false
set_option linter.unusedSimpArgs false
open Go Go.RowKit Go.Proofs.YtpkbbdhpdplkeaaDoor.Reg Go.Proofs.YtpkbbdhpdplkeaaDoor.Base Go.Proofs.YtpkbbdhpdplkeaaDoor.Limb Go.Proofs.YtpkbbdhpdplkeaaDoor.Fp

theorem gp_twice (p : G) (q : Nat) : gp p (q + q) = gm (gp p q) (gp p q) := gp_add p q q
/-- A step of a power from the highest bit on. -/
theorem pow_step (p : G) {v x b : Int} (hx : 0 ≤ x) (hb : b = 0 ∨ b = 1) (hv : v = 2 * x + b) : gp p v.toNat = if b = 1 then gm (gm (gp p x.toNat) (gp p x.toNat)) p else gm (gp p x.toNat) (gp p x.toNat) := by
  rcases hb with rfl | rfl
  · rw [if_neg (by decide), ← gp_twice]
    congr 1
    omega
  · rw [if_pos rfl, ← gp_twice, ← show gp p (x.toNat + x.toNat + 1) = gm (gp p (x.toNat + x.toNat)) p from rfl]
    congr 1
    omega

end Go.Proofs.YtpkbbdhpdplkeaaDoor.Fp2
