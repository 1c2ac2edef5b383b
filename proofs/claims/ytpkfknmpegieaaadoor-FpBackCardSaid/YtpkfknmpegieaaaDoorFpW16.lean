/-
  Own text. What shortPow of package fp leans on: a table of powers; digits of four bits.
-/
import Derived.Test.YtpkfknmpegieaaaDoorRegH
import Derived.Test.YtpkfknmpegieaaaDoorFpW15
import Derived.Test.YtpkfknmpegieaaaDoorFpW8
namespace Go.Proofs.YtpkfknmpegieaaaDoor.Fp
set_option linter.unusedVariables false
set_option linter.unusedSimpArgs false
open Go Go.RowKit Go.Proofs.YtpkfknmpegieaaaDoor.Reg Go.Proofs.YtpkfknmpegieaaaDoor.Base Go.Proofs.YtpkfknmpegieaaaDoor.Limb Go.Proofs.YtpkfknmpegieaaaDoor.Bits

/-- A table whose first k rows are powers. -/
structure Pows (x : Int) (k : Nat) (T : List Int) : Prop where
  len : T.length = 96
  row : ∀ j, j < k → (T.drop (6 * j)).take 6 = fe (x ^ j)
theorem Pows.none (x : Int) : Pows x 1 ([1, 0, 0, 0, 0, 0] ++ List.replicate 90 0) :=
  ⟨by decide, fun j hj => by
    obtain rfl : j = 0 := by omega
    rw [Int.pow_zero]
    decide +kernel⟩
theorem Pows.more {x : Int} {k : Nat} {T ys : List Int} (h : Pows x k T) (hk : k < 16) (hy : fe (x ^ k) = ys) : Pows x (k + 1) (T.take (6 * k) ++ (ys ++ T.drop (6 * k + ys.length))) := by
  have hl := h.len
  have hyl : ys.length = 6 := hy ▸ fe_len _
  have h1 : (T.take (6 * k)).length = 6 * k := by rw [List.length_take]; omega
  refine ⟨by rw [List.length_append, List.length_append, h1, List.length_drop]; omega, fun j hj => ?_⟩
  rcases Nat.lt_or_ge j k with hlt | hge
  · rw [← h.row j hlt]
    apply List.ext_getElem?
    intro i
    rw [List.getElem?_take, List.getElem?_take]
    split
    · rw [List.getElem?_drop, List.getElem?_drop, List.getElem?_append_left (by omega), List.getElem?_take, if_pos (by omega)]
    · rfl
  · obtain rfl : j = k := by omega
    rw [List.drop_left' h1, List.take_left' hyl, hy]
theorem pow_next {x : Int} {k : Nat} {a : List Int} (ha : num a = x) : fe (num (fe (x ^ k)) * num a) = fe (x ^ (k + 1)) := by
  rw [fe_mull, ha, Int.pow_succ]
/-- A number's next digit of four bits. -/
theorem num_digit {l : List Int} (hw : Words l) {i s : Nat} (hi : i < l.length) (hs : s + 4 ≤ 64) : num l / tp (64 * i + s) = 16 * (num l / tp (64 * i + (s + 4))) + nth l i / 2 ^ s % 16 := by
  obtain ⟨V, hV⟩ : ∃ V, num l / tp (64 * i + s) = V := ⟨_, rfl⟩
  have h16 : num l / tp (64 * i + (s + 4)) = V / 16 := by
    rw [← hV, ← Nat.add_assoc, tp_add, ← Int.ediv_ediv_of_nonneg (Int.le_of_lt (tp_pos _))]
    rfl
  have hm : V % 16 = nth l i / 2 ^ s % 16 := by
    have e1 : num l / tp (64 * i) = num (l.drop i) := by
      rw [num_split l i (by omega), tp_wp]
      rw [Int.add_mul_ediv_left _ _ (by have := wp_pos i; omega), Int.ediv_eq_zero_of_lt (low_bounds hw i).1 (low_bounds hw i).2, Int.zero_add]
    have e2 : V = (nth l i + 18446744073709551616 * num (l.drop (i + 1))) / tp s := by
      rw [← hV, tp_add, ← Int.ediv_ediv_of_nonneg (Int.le_of_lt (tp_pos _)), e1, num_drop hi]
    obtain ⟨t, ht⟩ : ∃ t, s + 4 + t = 64 := ⟨60 - s, by omega⟩
    have e3 : (18446744073709551616 : Int) = tp s * (16 * tp t) := by
      have : tp 64 = tp s * (16 * tp t) := by
        rw [← ht, tp_add, tp_add, Int.mul_assoc]
        rfl
      rw [← this]
      decide
    rw [e2, e3, Int.mul_assoc, Int.add_mul_ediv_left _ _ (by have := tp_pos s; omega), Int.mul_assoc, Int.add_mul_emod_self_left]
    rfl
  rw [h16, hV, ← hm]
  omega
/-- One squaring. -/
theorem pow_square {x E : Int} {o : List Int} (h0 : 0 ≤ E) (ho : fe (pw x E) = o) : fe (num o * num o) = fe (pw x (2 * E)) := by
  rw [← ho, fe_times, ← pw_add h0 h0]
  congr 2
  omega
/-- A power that is 1 stays 1. -/
theorem pow_ones {x E : Int} (h0 : 0 ≤ E) (h : fe (pw x E) = fe 1) : ∀ k : Nat, fe (pw x (2 ^ k * E)) = fe 1
  | 0 => by rw [Int.pow_zero, Int.one_mul, h]
  | k + 1 => by
    have h1 : 0 ≤ 2 ^ k * E := Int.mul_nonneg (Int.le_of_lt (Int.pow_pos (by omega))) h0
    have h2 := pow_square h1 (pow_ones h0 h k)
    rw [show (2 : Int) ^ (k + 1) * E = 2 * (2 ^ k * E) by rw [Int.pow_succ]; grind, ← h2]
    decide +kernel
/-- A digit taken in. -/
theorem pow_digit {x E d : Int} {k : Nat} {o : List Int} (h0 : 0 ≤ E) (hd : d = (k : Int)) (ho : fe (pw x E) = o) : fe (num o * num (fe (x ^ k))) = fe (pw x (E + d)) := by
  rw [← ho, fe_times, hd, pw_add h0 (by omega)]
  rfl
end Go.Proofs.YtpkfknmpegieaaaDoor.Fp
