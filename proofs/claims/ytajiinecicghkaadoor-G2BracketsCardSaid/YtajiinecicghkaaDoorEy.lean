/-
  Own text. A number's bits, from the highest on. Speaks of no program.
-/
import Derived.Test.YtajiinecicghkaaDoorMFpR
import Derived.Test.YtajiinecicghkaaDoorMReg
namespace Go.Proofs.YtajiinecicghkaaDoor.Ey
set_option linter.unusedVariables false
open Go Go.RowKit Go.Proofs.YtajiinecicghkaaDoor.Reg Go.Proofs.YtajiinecicghkaaDoor.Base Go.Proofs.YtajiinecicghkaaDoor.Limb Go.Proofs.YtajiinecicghkaaDoor.Fp
section
variable {n : Nat} {l : List Int}
/-- A round's place, word, from there on. -/
abbrev ji (n k : Nat) : Int := 64 * (n : Int) - 1 - k
abbrev wd_ (n : Nat) (l : List Int) (k : Nat) : Int := nth l ((ji n k / 64).toNat * 1) / 2 ^ (ji n k % 64).toNat
theorem wd_in (hw : Words l) (k : Nat) : 0 ≤ wd_ n l k ∧ wd_ n l k ≤ 18446744073709551615 := by
  have h := hw ((ji n k / 64).toNat * 1)
  have h2 : wd_ n l k ≤ nth l ((ji n k / 64).toNat * 1) := Int.ediv_le_self _ h.1
  exact ⟨Int.ediv_nonneg h.1 (Int.le_of_lt (Int.pow_pos (by decide))), by omega⟩
def ey (n : Nat) (l : List Int) (k : Nat) : Nat := (num l / tp (64 * n - k)).toNat
theorem ey_0 (hw : Words l) (hl : l.length = n) : ey n l 0 = 0 := by
  have hb := num_bounds hw
  rw [hl] at hb
  rw [ey, show 64 * n - 0 = 64 * n by omega, tp_wp, Int.ediv_eq_zero_of_lt hb.1 hb.2]
  rfl
theorem ey_n : ey n l (64 * n) = (num l).toNat := by rw [ey, Nat.sub_self, tp_zero, Int.ediv_one]
theorem ey_more {k : Nat} (hk : k < 64 * n) (hw : Words l) : ey n l (k + 1) = 2 * ey n l k + (wd_ n l k % 2).toNat := by
  have h := num_shift (num l) (64 * n - (k + 1))
  rw [num_bit hw, show 64 * n - (k + 1) + 1 = 64 * n - k by omega] at h
  have e : bitL l (64 * n - (k + 1)) = wd_ n l k % 2 := by
    show nth l ((64 * n - (k + 1)) / 64) / 2 ^ ((64 * n - (k + 1)) % 64) % 2 = nth l ((ji n k / 64).toNat * 1) / 2 ^ (ji n k % 64).toNat % 2
    rw [show (ji n k / 64).toNat * 1 = (64 * n - (k + 1)) / 64 by simp only [ji]; omega, show (ji n k % 64).toNat = (64 * n - (k + 1)) % 64 by simp only [ji]; omega]
  rw [e] at h
  have h0 : 0 ≤ num l / tp (64 * n - k) := Int.ediv_nonneg (num_bounds hw).1 (Int.le_of_lt (tp_pos _))
  have h1 := Int.emod_nonneg (wd_ n l k) (show (2 : Int) ≠ 0 by decide)
  rw [ey, ey, h]
  omega
end
end Go.Proofs.YtajiinecicghkaaDoor.Ey
