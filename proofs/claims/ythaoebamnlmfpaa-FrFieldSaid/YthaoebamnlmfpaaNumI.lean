/-
  Own text. Fermat's little theorem for whole numbers. Speaks of no program.
-/
import Derived.Test.YthaoebamnlmfpaaNum
namespace Go.Proofs.Ythaoebamnlmfpaa.Num
set_option linter.unusedVariables false

theorem pow_rest (x n : Int) : ∀ k : Nat, x ^ k % n = (x % n) ^ k % n
  | 0 => by rw [Int.pow_zero, Int.pow_zero]
  | k + 1 => by rw [Int.pow_succ, Int.pow_succ, Int.mul_emod, pow_rest x n k, ← Int.mul_emod, Int.mul_emod, Int.mul_emod ((x % n) ^ k) (x % n), Int.emod_emod]
theorem int_fermat {p : Nat} (hp : Pr p) {x : Int} (hx : x % p ≠ 0) : x ^ (p - 1) % p = 1 := by
  have h2 := hp.1
  have h0 : 0 ≤ x % p := Int.emod_nonneg _ (by omega)
  have h1 : x % p < p := Int.emod_lt_of_pos _ (by omega)
  obtain ⟨a, ha⟩ := Int.eq_ofNat_of_zero_le h0
  rw [pow_rest, ha]
  have hna : ¬ p ∣ a := fun h => by
    have := Nat.le_of_dvd (by omega) h
    omega
  have h := fermat hp hna
  rw [← Int.natCast_pow, ← Int.natCast_emod, h]
  rfl
/-- An inverse by a power. -/
theorem int_inverse {p : Nat} (hp : Pr p) {x : Int} (hx : x % p ≠ 0) : x * x ^ (p - 2) % p = 1 := by
  have h2 := hp.1
  have h := int_fermat hp hx
  obtain ⟨k, rfl⟩ : ∃ k, p = k + 2 := ⟨p - 2, by omega⟩
  rw [show k + 2 - 1 = k + 1 by omega, Int.pow_succ, Int.mul_comm] at h
  exact h
/-- No product of two is nought unless one is. -/
theorem int_split {p : Nat} (hp : Pr p) {x y : Int} (h : x * y % p = 0) : x % p = 0 ∨ y % p = 0 := by
  by_cases hx : x % p = 0
  · exact .inl hx
  · right
    have h1 := int_inverse hp hx
    have h2 : x ^ (p - 2) * (x * y) % p = 0 := by rw [Int.mul_emod, h, Int.mul_zero, Int.zero_emod]
    rw [← Int.mul_assoc, Int.mul_comm (x ^ (p - 2)), Int.mul_emod, h1, Int.one_mul, Int.emod_emod] at h2
    exact h2
end Go.Proofs.Ythaoebamnlmfpaa.Num
