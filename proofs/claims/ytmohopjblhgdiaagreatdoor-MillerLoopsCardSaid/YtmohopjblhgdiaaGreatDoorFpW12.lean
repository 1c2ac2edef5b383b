/-
  Own text. Euclid's way by halves and differences: what stays as it is, and what it comes to.
-/
import Derived.Test.YtmohopjblhgdiaaGreatDoorFpW11
import Derived.Test.YtmohopjblhgdiaaGreatDoorMFpN
namespace Go.Proofs.YtmohopjblhgdiaaGreatDoor.Fp
set_option linter.unusedVariables false
open Go Go.RowKit Go.Proofs.YtmohopjblhgdiaaGreatDoor.Reg Go.Proofs.YtmohopjblhgdiaaGreatDoor.Base Go.Proofs.YtmohopjblhgdiaaGreatDoor.Limb Go.Proofs.YtmohopjblhgdiaaGreatDoor.Bits

/-- What stays as it is. -/
structure Euc (A u v r s : Int) (D : Nat) : Prop where
  u0 : 0 < u
  v0 : 0 < v
  r0 : 0 ≤ r
  s0 : 0 ≤ s
  sum : u * s + v * r = PP
  hs : (A * s - v * 2 ^ D) % PP = 0
  hr : (A * r + u * 2 ^ D) % PP = 0
  pr : u * v * 2 ^ D ≤ PP * A
  vA : v ≤ A
section
variable {A u v r s : Int} {D : Nat}
theorem Euc.start (h0 : 0 < A) : Euc A PP A 0 1 0 :=
  ⟨PP_pos, h0, by omega, by omega, by simp, by simp, by simp, by simp, by omega⟩
theorem Euc.odd_v (h : Euc A u v r s D) {d : Nat} {v' r' : Int} (hv : v = 2 ^ d * v') (h0 : 0 < v') (hr : r' = 2 ^ d * r) : Euc A u v' r' s (D + d) := by
  have p : (0 : Int) < 2 ^ d := Int.pow_pos (by omega)
  have hle : v' ≤ v := by
    have : 1 * v' ≤ 2 ^ d * v' := Int.mul_le_mul_of_nonneg_right (by omega) (by omega)
    omega
  refine ⟨h.u0, h0, by rw [hr]; exact Int.mul_nonneg (by omega) h.r0, h.s0, ?_, ?_, ?_, ?_, by have := h.vA; omega⟩
  · rw [← h.sum, hv, hr]; grind
  · rw [Int.pow_add, show A * s - v' * (2 ^ D * 2 ^ d) = A * s - v * 2 ^ D by rw [hv]; grind]; exact h.hs
  · rw [hr, Int.pow_add, show A * (2 ^ d * r) + u * (2 ^ D * 2 ^ d) = (A * r + u * 2 ^ D) * 2 ^ d by grind, Int.mul_emod, h.hr]; simp
  · rw [Int.pow_add, show u * v' * (2 ^ D * 2 ^ d) = u * v * 2 ^ D by rw [hv]; grind]; exact h.pr
theorem Euc.odd_u (h : Euc A u v r s D) {d : Nat} {u' s' : Int} (hu : u = 2 ^ d * u') (h0 : 0 < u') (hs : s' = 2 ^ d * s) : Euc A u' v r s' (D + d) := by
  refine ⟨h0, h.v0, h.r0, by rw [hs]; exact Int.mul_nonneg (Int.le_of_lt (Int.pow_pos (by omega))) h.s0, ?_, ?_, ?_, ?_, h.vA⟩
  · rw [← h.sum, hu, hs]; grind
  · rw [hs, Int.pow_add, show A * (2 ^ d * s) - v * (2 ^ D * 2 ^ d) = (A * s - v * 2 ^ D) * 2 ^ d by grind, Int.mul_emod, h.hs]; simp
  · rw [Int.pow_add, show A * r + u' * (2 ^ D * 2 ^ d) = A * r + u * 2 ^ D by rw [hu]; grind]; exact h.hr
  · rw [Int.pow_add, show u' * v * (2 ^ D * 2 ^ d) = u * v * 2 ^ D by rw [hu]; grind]; exact h.pr
theorem Euc.sub_v (h : Euc A u v r s D) (hlt : u < v) {v' s' : Int} (hv : v' = v - u) (hs : s' = s + r) : Euc A u v' r s' D := by
  have h1 := h.u0
  refine ⟨h.u0, by omega, h.r0, by have := h.r0; have := h.s0; omega, ?_, ?_, h.hr, ?_, by have := h.vA; omega⟩
  · rw [← h.sum, hv, hs]; grind
  · rw [hv, hs, show A * (s + r) - (v - u) * 2 ^ D = (A * s - v * 2 ^ D) + (A * r + u * 2 ^ D) by grind, Int.add_emod, h.hs, h.hr]; rfl
  · have p : (0 : Int) < 2 ^ D := Int.pow_pos (by omega)
    have h2 : u * v' ≤ u * v := Int.mul_le_mul_of_nonneg_left (by omega) (by omega)
    have h3 : u * v' * 2 ^ D ≤ u * v * 2 ^ D := Int.mul_le_mul_of_nonneg_right h2 (by omega)
    have := h.pr
    omega
theorem Euc.sub_u (h : Euc A u v r s D) (hlt : v < u) {u' r' : Int} (hu : u' = u - v) (hr : r' = r + s) : Euc A u' v r' s D := by
  have h1 := h.v0
  refine ⟨by omega, h.v0, by have := h.r0; have := h.s0; omega, h.s0, ?_, h.hs, ?_, ?_, h.vA⟩
  · rw [← h.sum, hu, hr]; grind
  · rw [hu, hr, show A * (r + s) + (u - v) * 2 ^ D = (A * r + u * 2 ^ D) + (A * s - v * 2 ^ D) by grind, Int.add_emod, h.hs, h.hr]; rfl
  · have p : (0 : Int) < 2 ^ D := Int.pow_pos (by omega)
    have h2 : u' * v ≤ u * v := Int.mul_le_mul_of_nonneg_right (by omega) (by omega)
    have h3 : u' * v * 2 ^ D ≤ u * v * 2 ^ D := Int.mul_le_mul_of_nonneg_right h2 (by omega)
    have := h.pr
    omega
theorem Euc.fit (h : Euc A u v r s D) : v * r < wp 6 ∧ u * s < wp 6 ∧ s + r < wp 6 := by
  have h1 := h.u0
  have h2 := h.v0
  have h3 := h.r0
  have h4 := h.s0
  have h5 := h.sum
  have h6 := PP_lt
  have h7 : 0 ≤ v * r := Int.mul_nonneg (by omega) h3
  have h8 : 0 ≤ u * s := Int.mul_nonneg (by omega) h4
  have h9 : 1 * s ≤ u * s := Int.mul_le_mul_of_nonneg_right (by omega) h4
  have h10 : 1 * r ≤ v * r := Int.mul_le_mul_of_nonneg_right (by omega) h3
  omega
theorem Euc.small (h : Euc A u v r s D) (hA : A < PP) : D ≤ 767 := by
  rcases Nat.lt_or_ge D 768 with h1 | h1
  · omega
  · exfalso
    have h2 := tp_le h1
    have h3 : tp 768 = wp 12 := tp_wp 12
    have h4 : wp 12 = wp 6 * wp 6 := wp_add 6 6
    have h5 : 1 * tp D ≤ u * v * tp D := Int.mul_le_mul_of_nonneg_right (by have := Int.mul_pos h.u0 h.v0; omega) (Int.le_of_lt (tp_pos D))
    have h6 : u * v * tp D ≤ PP * A := h.pr
    have h7 : PP * A ≤ PP * PP := Int.mul_le_mul_of_nonneg_left (Int.le_of_lt hA) (Int.le_of_lt PP_pos)
    have h8 : PP * PP < wp 6 * wp 6 := by decide +kernel
    omega
theorem Euc.done (h : Euc A u u r s D) (hA : A < PP) : (A * s) % PP = 2 ^ D % PP := by
  obtain ⟨p, hp, e⟩ := PP_prime
  have h1 : u * (s + r) = PP := by rw [← h.sum]; grind
  have h2 := h.u0
  have h3 := h.vA
  have hd : u.toNat ∣ p := by
    have h4 : (u.toNat : Int) ∣ (p : Int) := by
      rw [Int.toNat_of_nonneg (by omega), ← e, ← h1]
      exact Int.dvd_mul_right _ _
    exact_mod_cast h4
  have hu : u = 1 := by
    rcases hp.2 _ hd with h5 | h5
    · omega
    · exfalso
      omega
  have h6 := h.hs
  rw [hu, Int.one_mul] at h6
  have h7 := Int.emod_emod_of_dvd (A * s) (Int.dvd_refl PP)
  have h8 : (A * s - 2 ^ D) % PP = 0 := h6
  have h9 := Int.emod_eq_emod_iff_emod_sub_eq_zero.2 h8
  exact h9
end
end Go.Proofs.YtmohopjblhgdiaaGreatDoor.Fp
