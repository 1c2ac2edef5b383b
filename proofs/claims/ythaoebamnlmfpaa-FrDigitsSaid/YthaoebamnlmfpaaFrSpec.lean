/-
  Own text. The numbers modulo r as four words; powers; Fermat. Speaks of no landed body.
-/
import Derived.Test.YthaoebamnlmfpaaLimbRef5
import Derived.Test.YthaoebamnlmfpaaNumI
import Derived.Test.YthaoebamnlmfpaaNumR
namespace Go.Proofs.Ythaoebamnlmfpaa.Fr
set_option linter.unusedVariables false
open Go Go.RowKit Go.Proofs.Ythaoebamnlmfpaa.Reg Go.Proofs.Ythaoebamnlmfpaa.Base Go.Proofs.Ythaoebamnlmfpaa.Limb Go.Proofs.Ythaoebamnlmfpaa.Num


/-- The modulus and its words. -/
def RR : Int := 52435875175126190479447740508185965837690552500527637822603658699938581184513
def mL : List Int := [18446744069414584321, 6034159408538082302, 3691218898639771653, 8353516859464449352]
theorem mL_len : mL.length = 4 := rfl
theorem num_mL : num mL = RR := by decide +kernel
theorem mL_words : Words mL := words_of _ (by decide)
theorem RR_pos : 0 < RR := by decide +kernel
theorem RR_lt : RR < wp 4 ∧ wp 4 ≤ 3 * RR ∧ 2 * RR < wp 4 := by decide +kernel
/-- A number below the modulus, as four words. -/
def fr (v : Int) : List Int := wd 4 (v % RR)
theorem fr_len (v : Int) : (fr v).length = 4 := wd_len _ _
theorem fr_words (v : Int) : Words (fr v) := wd_words _ _
theorem fr_mod (v : Int) : 0 ≤ v % RR ∧ v % RR < RR := ⟨Int.emod_nonneg _ (Int.ne_of_gt RR_pos), Int.emod_lt_of_pos _ RR_pos⟩
theorem num_fr (v : Int) : num (fr v) = v % RR := by
  have h := fr_mod v
  exact num_wd_of h.1 (Int.lt_trans h.2 RR_lt.1)
theorem fr_congr {v u : Int} (h : v % RR = u % RR) : fr v = fr u := by rw [fr, fr, h]
theorem fr_num (v : Int) : fr (num (fr v)) = fr v := fr_congr (by rw [num_fr, Int.emod_emod])
theorem fr_inj {v u : Int} (h : fr v = fr u) : v % RR = u % RR := by rw [← num_fr, ← num_fr, h]
theorem fr_below {l : List Int} (hw : Words l) (hl : l.length = 4) (h : num l < RR) : l = fr (num l) := by
  rw [fr, Int.emod_eq_of_lt (num_bounds hw).1 h]
  exact (wd_num hw hl).symm
theorem num4 {l : List Int} (hw : Words l) (hl : l.length = 4) : 0 ≤ num l ∧ num l < wp 4 := by have := num_bounds hw; rwa [hl] at this
/-- A power. -/
def pw (x e : Int) : Int := x ^ e.toNat
theorem pw_zero (x : Int) : pw x 0 = 1 := by rw [pw, Int.toNat_zero, Int.pow_zero]
theorem pw_add {x a b : Int} (ha : 0 ≤ a) (hb : 0 ≤ b) : pw x (a + b) = pw x a * pw x b := by
  rw [pw, pw, pw, ← Int.pow_add]
  congr 1
  omega
theorem pw_one (x : Int) : pw x 1 = x := by rw [pw]; exact Int.pow_one x

theorem RR_prime : ∃ p : Nat, Pr p ∧ RR = (p : Int) := ⟨_, pr_r, by decide +kernel⟩
theorem pw_inverse {x : Int} (hx : x % RR ≠ 0) : x * pw x (RR - 2) % RR = 1 := by
  obtain ⟨p, hp, e⟩ := RR_prime
  rw [e] at hx ⊢
  have h2 := hp.1
  rw [pw, show ((p : Int) - 2).toNat = p - 2 by omega]
  exact int_inverse hp hx
theorem pw_fermat {x : Int} (hx : x % RR ≠ 0) : pw x (RR - 1) % RR = 1 := by
  obtain ⟨p, hp, e⟩ := RR_prime
  rw [e] at hx ⊢
  have h2 := hp.1
  rw [pw, show ((p : Int) - 1).toNat = p - 1 by omega]
  exact int_fermat hp hx
theorem RR_split {x y : Int} (h : x * y % RR = 0) : x % RR = 0 ∨ y % RR = 0 := by
  obtain ⟨p, hp, e⟩ := RR_prime
  rw [e] at h ⊢
  exact int_split hp h
theorem fr_inverse {x : Int} (hx : x % RR ≠ 0) : fr (x * pw x (RR - 2)) = fr 1 := fr_congr ((pw_inverse hx).trans (by decide +kernel))
theorem fr_fermat {x : Int} (hx : x % RR ≠ 0) : fr (pw x (RR - 1)) = fr 1 := fr_congr ((pw_fermat hx).trans (by decide +kernel))
theorem pw_nought {x : Int} (hx : x % RR = 0) {e : Int} (he : 0 < e) : pw x e % RR = 0 := by
  obtain ⟨k, hk⟩ : ∃ k, e.toNat = k + 1 := ⟨e.toNat - 1, by omega⟩
  rw [pw, hk, Int.pow_succ, Int.mul_emod, hx, Int.mul_zero, Int.zero_emod]
def Z4 : List Int := [0, 0, 0, 0]

theorem neg_out (y : Int) : -(y % RR) = -y + RR * (y / RR) := by
  have := Int.mul_ediv_add_emod y RR
  omega
theorem fr_addl (x y : Int) : fr (num (fr x) + y) = fr (x + y) := fr_congr (by rw [num_fr, Int.emod_add_emod])
theorem fr_addr (x y : Int) : fr (x + num (fr y)) = fr (x + y) := by rw [Int.add_comm, fr_addl, Int.add_comm]
theorem fr_neg (y : Int) : fr (-num (fr y)) = fr (-y) := fr_congr (by rw [num_fr, neg_out, Int.add_mul_emod_self_left])
theorem fr_subl (x y : Int) : fr (num (fr x) - y) = fr (x - y) := by rw [Int.sub_eq_add_neg, fr_addl, ← Int.sub_eq_add_neg]
theorem fr_subr (x y : Int) : fr (x - num (fr y)) = fr (x - y) := by
  rw [Int.sub_eq_add_neg, ← fr_addr, fr_neg, fr_addr, ← Int.sub_eq_add_neg]
theorem fr_mull (x y : Int) : fr (num (fr x) * y) = fr (x * y) := fr_congr (by rw [num_fr, Int.mul_emod, Int.emod_emod, ← Int.mul_emod])
theorem fr_mulr (x y : Int) : fr (x * num (fr y)) = fr (x * y) := by rw [Int.mul_comm, fr_mull, Int.mul_comm]
theorem fr_zero_iff (x : Int) : fr x = fr 0 ↔ x % RR = 0 := by
  refine ⟨fun h => ?_, fun h => fr_congr (by rw [h]; rfl)⟩
  have := fr_inj h
  rwa [Int.zero_emod] at this
theorem num_one : num [1, 0, 0, 0] = 1 := by decide +kernel
theorem num_two : num [2, 0, 0, 0] = 2 := by decide +kernel
theorem num_Z4 : num Z4 = 0 := by decide +kernel
theorem pw_congr {x y : Int} (h : x % RR = y % RR) : ∀ n : Nat, x ^ n % RR = y ^ n % RR
  | 0 => by rw [Int.pow_zero, Int.pow_zero]
  | n + 1 => by rw [Int.pow_succ, Int.pow_succ, Int.mul_emod, pw_congr h n, h, ← Int.mul_emod]
theorem fr_pw (x e : Int) : fr (pw (num (fr x)) e) = fr (pw x e) := fr_congr (pw_congr (by rw [num_fr, Int.emod_emod]) _)
/-- A number's power of p is itself. -/
theorem fr_pw_p (x : Int) : fr (pw x RR) = fr x := by
  have e : pw x RR = x * pw x (RR - 1) := by
    have h := pw_add (x := x) (a := 1) (b := RR - 1) (by decide) (by have := RR_pos; omega)
    rw [pw_one] at h
    rw [← h]
    congr 1
  by_cases hx : x % RR = 0
  · refine fr_congr ?_
    rw [hx]
    exact pw_nought hx RR_pos
  · have h := fr_fermat hx
    have h2 : fr (x * num (fr (pw x (RR - 1)))) = fr (x * num (fr 1)) := by rw [h]
    rw [fr_mulr, fr_mulr, Int.mul_one] at h2
    rw [e, h2]
/-- The inverse: its product is 1. -/
theorem fr_inv {x : Int} (hx : x % RR ≠ 0) : fr (x * num (fr (pw x (RR - 2)))) = fr 1 := by rw [fr_mulr, fr_inverse hx]
theorem fr_inv_zero {x : Int} (hx : x % RR = 0) : fr (pw x (RR - 2)) = fr 0 := (fr_zero_iff _).2 (pw_nought hx (by decide +kernel))
/-- The inverse's inverse. -/
theorem fr_inv_inv (x : Int) : fr (pw (num (fr (pw x (RR - 2)))) (RR - 2)) = fr x := by
  obtain ⟨i, hi⟩ : ∃ i, pw x (RR - 2) = i := ⟨_, rfl⟩
  rw [hi]
  by_cases hx : x % RR = 0
  · have h0 : fr i = fr 0 := by rw [← hi]; exact fr_inv_zero hx
    rw [h0, fr_inv_zero (by rw [num_fr]; rfl)]
    exact ((fr_zero_iff x).2 hx).symm
  · have h1 : fr (x * i) = fr 1 := by rw [← hi]; exact fr_inverse hx
    have hi0 : i % RR ≠ 0 := fun h => by
      have h2 : fr (x * num (fr i)) = fr (x * num (fr 0)) := by rw [(fr_zero_iff i).2 h]
      rw [fr_mulr, fr_mulr, Int.mul_zero, h1] at h2
      exact absurd (fr_inj h2) (by decide +kernel)
    obtain ⟨k, hk⟩ : ∃ k, pw (num (fr i)) (RR - 2) = k := ⟨_, rfl⟩
    have h3 : fr (i * k) = fr 1 := by
      have := fr_inverse (x := num (fr i)) (by rw [num_fr, Int.emod_emod]; exact hi0)
      rw [hk, fr_mull] at this
      exact this
    rw [hk]
    have h4 : fr (x * num (fr (i * k))) = fr (x * num (fr 1)) := by rw [h3]
    rw [fr_mulr, fr_mulr, Int.mul_one, ← Int.mul_assoc] at h4
    have h5 : fr (num (fr (x * i)) * k) = fr (num (fr 1) * k) := by rw [h1]
    rw [fr_mull, fr_mull, Int.one_mul] at h5
    rw [← h5, h4]
theorem fr_prod_zero (x y : Int) : fr (x * y) = fr 0 ↔ (fr x = fr 0 ∨ fr y = fr 0) := by
  rw [fr_zero_iff, fr_zero_iff, fr_zero_iff]
  refine ⟨fun h => RR_split h, fun h => ?_⟩
  rcases h with h | h
  · rw [Int.mul_emod, h, Int.zero_mul, Int.zero_emod]
  · rw [Int.mul_emod, h, Int.mul_zero, Int.zero_emod]
theorem fr_zero : fr 0 = Z4 := by decide +kernel
theorem fr_one : fr 1 = [1, 0, 0, 0] := by decide +kernel
end Go.Proofs.Ythaoebamnlmfpaa.Fr
