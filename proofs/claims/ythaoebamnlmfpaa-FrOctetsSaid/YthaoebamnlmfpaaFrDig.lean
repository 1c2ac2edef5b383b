/-
  Own text. A number's digits to the base 2^w, each more than -2^(w - 1) and at most 2^(w - 1). Speaks of no program.
-/
import Derived.Test.YthaoebamnlmfpaaLimbRef3
namespace Go.Proofs.Ythaoebamnlmfpaa.Fr
set_option linter.unusedVariables false
open Go Go.RowKit Go.Proofs.Ythaoebamnlmfpaa.Reg Go.Proofs.Ythaoebamnlmfpaa.Base Go.Proofs.Ythaoebamnlmfpaa.Limb

/-- The lowest digit to the base 2 H. -/
def dg (H v : Int) : Int := if H < v % (2 * H) then v % (2 * H) - 2 * H else v % (2 * H)
/-- What is left behind it. -/
def nx (H v : Int) : Int := (v - dg H v) / (2 * H)
def digs (H : Int) : Nat → Int → List Int
  | 0, _ => []
  | f + 1, v => if v = 0 then [] else dg H v :: digs H f (nx H v)
theorem dg_bounds {H v : Int} (hH : 0 < H) : -H < dg H v ∧ dg H v ≤ H := by
  have h1 := Int.emod_nonneg v (show 2 * H ≠ 0 by omega)
  have h2 := Int.emod_lt_of_pos v (show 0 < 2 * H by omega)
  unfold dg
  split <;> omega
theorem nx_eq {H v : Int} (hH : 0 < H) : v = dg H v + 2 * H * nx H v := by
  have h1 : (v - dg H v) % (2 * H) = 0 := by
    unfold dg
    split
    · rw [show v - (v % (2 * H) - 2 * H) = v - v % (2 * H) + 2 * H * 1 by omega, Int.add_mul_emod_self_left]
      exact by have := Int.mul_ediv_add_emod v (2 * H); rw [show v - v % (2 * H) = 2 * H * (v / (2 * H)) by omega, Int.mul_emod_right]
    · exact by have := Int.mul_ediv_add_emod v (2 * H); rw [show v - v % (2 * H) = 2 * H * (v / (2 * H)) by omega, Int.mul_emod_right]
  have h2 := Int.mul_ediv_add_emod (v - dg H v) (2 * H)
  unfold nx
  omega
theorem nx_nonneg {H v : Int} (hH : 0 < H) (hv : 0 ≤ v) : 0 ≤ nx H v := by
  have h1 := nx_eq (v := v) hH
  have h2 := dg_bounds (v := v) hH
  rcases Int.lt_or_le (nx H v) 0 with h | h
  · exfalso
    have h3 : 2 * H * nx H v ≤ 2 * H * (-1) := Int.mul_le_mul_of_nonneg_left (by omega) (by omega)
    omega
  · exact h
/-- The rest has fewer bits. -/
theorem nx_less {H v : Int} (hH : 2 ≤ H) (hv : 0 ≤ v) {g : Nat} (h : v < 2 ^ (g + 1)) : nx H v < 2 ^ g := by
  have h1 := nx_eq (v := v) (show 0 < H by omega)
  have h2 := dg_bounds (v := v) (show 0 < H by omega)
  have h0 := nx_nonneg (H := H) (show 0 < H by omega) hv
  have hp : (0 : Int) < 2 ^ g := Int.pow_pos (by decide)
  rw [Int.pow_succ] at h
  rcases Int.lt_or_le (nx H v) (2 ^ g) with h3 | h3
  · exact h3
  · exfalso
    have h4 : H * 2 ^ g ≤ H * nx H v := Int.mul_le_mul_of_nonneg_left h3 (by omega)
    have h5 : 2 * 2 ^ g ≤ H * 2 ^ g := Int.mul_le_mul_of_nonneg_right hH (by omega)
    have h6 : H * 1 ≤ H * 2 ^ g := Int.mul_le_mul_of_nonneg_left (by omega) (by omega)
    have h7 : 2 * H * nx H v = 2 * (H * nx H v) := by rw [Int.mul_assoc]
    omega
theorem digs_zero (H : Int) : ∀ f, digs H f 0 = []
  | 0 => rfl
  | f + 1 => by rw [digs, if_pos rfl]
theorem digs_step {H v : Int} {f : Nat} (h : v ≠ 0) : digs H (f + 1) v = dg H v :: digs H f (nx H v) := by rw [digs, if_neg h]
/-- A number's words, shifted down by as many bits as B has. -/
def shw (L : List Int) (B C : Int) (j : Nat) : Int := nth L j / B + nth L (j + 1) % B * C
theorem shift_low {L : List Int} {B C : Int} {N : Nat} (hBC : B * C = 18446744073709551616) : ∀ k, k ≤ N → low (tab N (shw L B C)) k * B + nth L 0 % B = low L k + wp k * (nth L k % B)
  | 0, _ => by rw [low_zero, low_zero, show wp 0 = 1 from rfl]; omega
  | k + 1, h => by
    have ih := shift_low (L := L) (N := N) hBC k (by omega)
    rw [low_succ, low_succ, tab_nth _ (by omega), wp_succ]
    have e1 : shw L B C k * B = nth L k - nth L k % B + nth L (k + 1) % B * 18446744073709551616 := by
      have := Int.mul_ediv_add_emod (nth L k) B
      unfold shw
      rw [Int.add_mul, Int.mul_comm (nth L k / B) B, Int.mul_assoc, Int.mul_comm C B, hBC]
      omega
    have e2 : (low (tab N (shw L B C)) k + wp k * shw L B C k) * B = low (tab N (shw L B C)) k * B + wp k * (shw L B C k * B) := by rw [Int.add_mul, Int.mul_assoc]
    rw [e2, e1]
    grind
theorem shift_num {L : List Int} {B C : Int} {N : Nat} (hl : L.length = N) (hB : 0 < B) (hBC : B * C = 18446744073709551616) : num (tab N (shw L B C)) = num L / B := by
  have h := shift_low (L := L) (N := N) hBC N (Nat.le_refl _)
  rw [low_num (by rw [tab_len]; exact Nat.le_refl _), low_num (by omega), show nth L N = 0 from nth_ge (by omega), Int.zero_emod, Int.mul_zero, Int.add_zero] at h
  have h1 := Int.emod_nonneg (nth L 0) (show B ≠ 0 by omega)
  have h2 := Int.emod_lt_of_pos (nth L 0) hB
  rw [← h, Int.mul_comm, show B * num (tab N (shw L B C)) + nth L 0 % B = nth L 0 % B + B * num (tab N (shw L B C)) by omega, Int.add_mul_ediv_left _ _ (by omega), Int.ediv_eq_zero_of_lt h1 h2, Int.zero_add]
theorem num_head (L : List Int) : ∃ q, num L = nth L 0 + 18446744073709551616 * q := by
  have key : ∀ k, ∃ q, low L (k + 1) = nth L 0 + 18446744073709551616 * q := fun k => by
    induction k with
    | zero => exact ⟨0, by rw [low_succ, low_zero, show wp 0 = 1 from rfl]; omega⟩
    | succ k ih =>
      obtain ⟨q, hq⟩ := ih
      exact ⟨q + wp k * nth L (k + 1), by rw [low_succ, hq, wp_succ]; grind⟩
  obtain ⟨q, hq⟩ := key L.length
  exact ⟨q, by rw [← hq]; exact (low_num (by omega)).symm⟩
theorem num_mod_head {L : List Int} {B C : Int} (hBC : B * C = 18446744073709551616) : num L % B = nth L 0 % B := by
  obtain ⟨q, hq⟩ := num_head L
  rw [hq, ← hBC, Int.mul_assoc, Int.add_mul_emod_self_left]
theorem shw_word {L : List Int} {B C : Int} (hw : Words L) (hB : 0 < B) (hC : 0 < C) (hBC : B * C = 18446744073709551616) (j : Nat) : 0 ≤ shw L B C j ∧ shw L B C j ≤ 18446744073709551615 := by
  have a := hw j
  have b := hw (j + 1)
  have h1 := Int.emod_nonneg (nth L (j + 1)) (show B ≠ 0 by omega)
  have h2 := Int.emod_lt_of_pos (nth L (j + 1)) hB
  have h3 : nth L j / B < C := Int.ediv_lt_of_lt_mul hB (by rw [Int.mul_comm, hBC]; omega)
  have h4 : 0 ≤ nth L j / B := Int.ediv_nonneg a.1 (by omega)
  have h5 : nth L (j + 1) % B * C ≤ (B - 1) * C := Int.mul_le_mul_of_nonneg_right (by omega) (by omega)
  have h6 : 0 ≤ nth L (j + 1) % B * C := Int.mul_nonneg h1 (by omega)
  rw [Int.sub_mul, Int.one_mul, hBC] at h5
  unfold shw
  omega
end Go.Proofs.Ythaoebamnlmfpaa.Fr
