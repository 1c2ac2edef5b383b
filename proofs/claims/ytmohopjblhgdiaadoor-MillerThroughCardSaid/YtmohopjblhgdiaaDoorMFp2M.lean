/-
  Own text. What a field with u is: sums of two squares.
-/
import Derived.Test.YtmohopjblhgdiaaDoorFp2Spec
namespace Go.Proofs.YtmohopjblhgdiaaDoor.Fp2
set_option linter.unusedVariables false
set_option linter.unusedSimpArgs false
open Go Go.RowKit Go.Proofs.YtmohopjblhgdiaaDoor.Reg Go.Proofs.YtmohopjblhgdiaaDoor.Base Go.Proofs.YtmohopjblhgdiaaDoor.Limb Go.Proofs.YtmohopjblhgdiaaDoor.Fp

/-- -1 is no square: a sum of two squares is 0 just of 0. -/
theorem two_squares {x y : Int} (h : (x * x + y * y) % PP = 0) : x % PP = 0 ∧ y % PP = 0 := by
  have key : ∀ {x y : Int}, (x * x + y * y) % PP = 0 → y % PP = 0 := fun {x y} h => by
    by_cases hy : y % PP = 0
    · exact hy
    · exfalso
      obtain ⟨e, he⟩ : ∃ e : Nat, (PP - 1).toNat = 2 * e ∧ e % 2 = 1 := ⟨((PP - 1) / 2).toNat, by decide +kernel⟩
      have h1 : x * x % PP = (-(y * y)) % PP := by
        have := Int.sub_emod (x * x + y * y) (y * y) PP
        rw [h, show x * x + y * y - y * y = x * x by omega] at this
        rw [this]
        have h2 := Int.sub_emod 0 (y * y) PP
        rw [Int.zero_emod, Int.zero_sub, Int.zero_sub] at h2
        rw [Int.zero_sub, h2]
      have hx : x % PP ≠ 0 := fun hx => by
        have h3 : x * x % PP = 0 := by rw [Int.mul_emod, hx]; rfl
        rw [h3] at h1
        have h4 : y * y % PP = 0 := by
          have := neg_congr (x := -(y * y)) (y := 0) (by rw [← h1]; rfl)
          rw [Int.neg_neg] at this
          exact this
        rcases PP_split h4 with h5 | h5 <;> exact hy h5
      have fx := pw_fermat hx
      have fy := pw_fermat hy
      rw [pw, he.1, Int.pow_mul] at fx fy
      have hsq : ∀ z : Int, z ^ 2 = z * z := fun z => by rw [Int.pow_succ, Int.pow_one]
      rw [hsq] at fx fy
      rw [pw_congr h1 e] at fx
      have hneg : (-(y * y)) ^ e = -((y * y) ^ e) := by
        obtain ⟨k, hk⟩ : ∃ k, e = 2 * k + 1 := ⟨e / 2, by omega⟩
        rw [hk, Int.pow_succ, Int.pow_succ, Int.pow_mul, Int.pow_mul, hsq, hsq, Int.neg_mul_neg, Int.mul_neg]
      rw [hneg] at fx
      have h7 := neg_congr (x := (y * y) ^ e) (y := 1) (by rw [fy]; decide +kernel)
      rw [fx] at h7
      exact absurd h7 (by decide +kernel)
  exact ⟨key (x := y) (y := x) (by rw [Int.add_comm]; exact h), key h⟩

/-- 0 modulo p. -/
def Z2 (p : G) : Prop := p.1 % PP = 0 ∧ p.2 % PP = 0
theorem Z2.congr {p q : G} (h : E2 p q) (hz : Z2 p) : Z2 q := ⟨by rw [← h.1]; exact hz.1, by rw [← h.2]; exact hz.2⟩
theorem norm_zero {p : G} (h : gnorm p % PP = 0) : Z2 p := two_squares h
theorem gm_gi {p : G} (h : ¬ Z2 p) : E2 (gm p (gi p)) (1, 0) := by
  have hn : gnorm p % PP ≠ 0 := fun h0 => h (norm_zero h0)
  have e : gm p (gi p) = (gnorm p * pw (gnorm p) (PP - 2), 0) := by
    generalize hk : pw (gnorm p) (PP - 2) = k
    rw [gi, hk]
    apply Prod.ext <;> simp only [gm, gk, gc, gnorm] <;> grind
  rw [e]
  have := fe_inj (fe_inverse hn)
  exact ⟨this, rfl⟩
theorem gm_zl {p q : G} (h : Z2 p) : Z2 (gm p q) := by
  have h0 : E2 p (0, 0) := ⟨by rw [h.1]; rfl, by rw [h.2]; rfl⟩
  have := gm_congr h0 (E2.rfl (p := q))
  refine Z2.congr this.symm ⟨?_, ?_⟩ <;> simp [gm]
theorem gm_zero {p q : G} (h : Z2 (gm p q)) (hp : ¬ Z2 p) : Z2 q := by
  have h1 : E2 (gm (gi p) (gm p q)) q := by
    rw [← gm_assoc, gm_comm (gi p) p]
    have := gm_congr (gm_gi hp) (E2.rfl (p := q))
    rw [gm_comm (1, 0) q, gm_one] at this
    exact this
  refine Z2.congr h1 ?_
  rw [gm_comm]
  exact gm_zl h
end Go.Proofs.YtmohopjblhgdiaaDoor.Fp2

/-
  Own text. A number with u to the power of p is its conjugate: what a sum with 1 leaves to the power of a prime. Speaks of no program.
-/
namespace Go.Proofs.YtmohopjblhgdiaaDoor.Fp2
set_option linter.unusedVariables false
open Go Go.Proofs.YtmohopjblhgdiaaDoor.Fp

/-- How many ways there are to take k of n. -/
def ch : Nat → Nat → Nat
  | _, 0 => 1
  | 0, _ + 1 => 0
  | n + 1, k + 1 => ch n k + ch n (k + 1)
/-- Powers, each so many times, added. -/
def bs (z : G) (n : Nat) : Nat → G
  | 0 => (0, 0)
  | m + 1 => ga (bs z n m) (gk (gp z m) (ch n m))
end Go.Proofs.YtmohopjblhgdiaaDoor.Fp2

