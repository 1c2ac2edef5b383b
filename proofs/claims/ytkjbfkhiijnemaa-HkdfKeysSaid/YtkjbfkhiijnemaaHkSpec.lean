/-
  Own text. Keyed sums as plain functions on lists of integers; no program of hkdf's own.
-/
import Derived.Test.YtkjbfkhiijnemaaShaSum2
import Derived.Laws.Closers25b
namespace Go.Proofs.Ytkjbfkhiijnemaa.Hk
open Go Go.RowKit Go.Proofs.Ytkjbfkhiijnemaa.Reg Go.Proofs.Ytkjbfkhiijnemaa.Sha

theorem sumL_len (bs : List Int) : (sumL bs).length = 32 := fill_len _ _ _ _
theorem sumL_bytes (bs : List Int) : Bytes (sumL bs) := bytes_of _ fun i hi => by
  rw [sumL_len] at hi
  rw [sumL, digL, fill_nth _ _ _ hi, if_pos hi, digF]
  have := Int.emod_nonneg (nth (foldS (padL bs) (padLen bs.length / 64)) (i / 4) / 2 ^ (24 - 8 * (i % 4))) (b := 256) (by omega)
  have := Int.emod_lt_of_pos (nth (foldS (padL bs) (padLen bs.length / 64)) (i / 4) / 2 ^ (24 - 8 * (i % 4))) (b := 256) (by omega)
  omega
theorem bytes_nil : Bytes [] := bytes_of _ fun i hi => by simp at hi
theorem bytes_append {l m : List Int} (hl : Bytes l) (hm : Bytes m) : Bytes (l ++ m) := fun i => by
  rcases Nat.lt_or_ge i l.length with h | h
  · rw [nth_append_left _ _ _ h]; exact hl i
  · rw [nth_append_right _ _ _ h]; exact hm _
theorem bytes_zeros (n : Nat) : Bytes (List.replicate n 0) := fun i => by
  have : nth (List.replicate n 0) i = 0 := by
    simp only [nth, List.getD_eq_getElem?_getD, List.getElem?_replicate]
    split <;> rfl
  omega
theorem bytes_one {x : Int} (h0 : 0 ≤ x) (h1 : x ≤ 255) : Bytes [x] := fun i => by
  rcases i with _ | i
  · exact ⟨h0, h1⟩
  · simp [nth]
theorem bytes_take {l : List Int} (h : Bytes l) (n : Nat) : Bytes (l.take n) := bytes_of _ fun i hi => by
  have : nth (l.take n) i = nth l i := by
    rw [List.length_take] at hi
    simp [nth, List.getElem?_take_of_lt (show i < n by omega)]
  rw [this]; exact h i
theorem bytes_drop {l : List Int} (h : Bytes l) (n : Nat) : Bytes (l.drop n) := fun i => by
  have : nth (l.drop n) i = nth l (n + i) := by simp [nth]
  rw [this]; exact h _

/-- Bytes, each less a byte. -/
def lessL (x : Int) (b : List Int) : List Int := b.map fun y => bits .xor .u8 y x
theorem lessL_len (x : Int) (b : List Int) : (lessL x b).length = b.length := by simp [lessL]
theorem lessL_nth (x : Int) (b : List Int) {i : Nat} (hi : i < b.length) : nth (lessL x b) i = bits .xor .u8 (nth b i) x := by simp [lessL, nth, hi]
theorem lessL_bytes (x : Int) (b : List Int) : Bytes (lessL x b) := bytes_of _ fun i hi => by
  rw [lessL_len] at hi
  rw [lessL_nth x b hi]
  exact bits_within .xor .u8 _ _
theorem take_succ_nth (b : List Int) {i : Nat} (hi : i < b.length) : b.take (i + 1) = b.take i ++ [nth b i] := by
  rw [List.take_succ_eq_append_getElem hi]
  simp [nth, hi]
theorem lessL_succ (x : Int) (b : List Int) {i : Nat} (hi : i < b.length) : lessL x (b.take i) ++ [bits .xor .u8 (nth b i) x] = lessL x (b.take (i + 1)) := by
  rw [take_succ_nth b hi]; simp [lessL]

/-- A key as a block of 64 bytes. -/
def keyL (key : List Int) : List Int := if 64 < key.length then sumL key else key
def blockL (key : List Int) : List Int := keyL key ++ List.replicate (64 - (keyL key).length) 0
theorem keyL_le (key : List Int) : (keyL key).length ≤ 64 := by
  unfold keyL
  split
  · rw [sumL_len]; omega
  · omega
theorem keyL_bytes {key : List Int} (h : Bytes key) : Bytes (keyL key) := by
  unfold keyL
  split
  · exact sumL_bytes _
  · exact h
theorem blockL_len (key : List Int) : (blockL key).length = 64 := by
  have := keyL_le key
  simp [blockL]; omega
theorem blockL_bytes {key : List Int} (h : Bytes key) : Bytes (blockL key) := bytes_append (keyL_bytes h) (bytes_zeros _)
/-- The keyed sum. -/
def innerL (key b : List Int) : List Int := sumL (lessL 54 (blockL key) ++ b)
def macL (key b : List Int) : List Int := sumL (lessL 92 (blockL key) ++ innerL key b)
theorem macL_len (key b : List Int) : (macL key b).length = 32 := sumL_len _
theorem macL_bytes (key b : List Int) : Bytes (macL key b) := sumL_bytes _
/-- The i-th thirty-two bytes that are made of a key, and the first i of them in a row. -/
def chainL (key info : List Int) : Nat → List Int
  | 0 => []
  | i + 1 => macL key (chainL key info i ++ info ++ [((i + 1 : Nat) : Int) % 256])
def rowL (key info : List Int) : Nat → List Int
  | 0 => []
  | i + 1 => rowL key info i ++ chainL key info (i + 1)
theorem chainL_bytes (key info : List Int) (i : Nat) : Bytes (chainL key info i) := by
  cases i with
  | zero => exact bytes_nil
  | succ i => exact macL_bytes _ _
theorem chainL_len (key info : List Int) (i : Nat) : (chainL key info (i + 1)).length = 32 := macL_len _ _
theorem chainL_le (key info : List Int) (i : Nat) : (chainL key info i).length ≤ 32 := by
  cases i with
  | zero => exact Nat.zero_le _
  | succ i => exact Nat.le_of_eq (macL_len _ _)
theorem rowL_len (key info : List Int) (i : Nat) : (rowL key info i).length = 32 * i := by
  induction i with
  | zero => rfl
  | succ i ih => rw [rowL, List.length_append, ih, chainL_len]; omega
theorem rowL_bytes (key info : List Int) (i : Nat) : Bytes (rowL key info i) := by
  induction i with
  | zero => exact bytes_nil
  | succ i ih => exact bytes_append ih (chainL_bytes _ _ _)
/-- Fewer are the beginning of more. -/
theorem rowL_take (key info : List Int) (i d : Nat) : (rowL key info (i + d)).take (32 * i) = rowL key info i := by
  induction d with
  | zero => exact List.take_of_length_le (by rw [rowL_len]; exact Nat.le_refl _)
  | succ d ih => rw [Nat.add_succ, rowL, List.take_append_of_le_length (by rw [rowL_len]; omega), ih]
/-- How many rounds give n bytes. -/
def roundsOf (n : Nat) : Nat := (n + 31) / 32
def expandL (key info : List Int) (n : Nat) : List Int := (rowL key info (roundsOf n)).take n
theorem expandL_len (key info : List Int) (n : Nat) : (expandL key info n).length = n := by
  rw [expandL, List.length_take, rowL_len]; unfold roundsOf; omega
theorem expandL_bytes (key info : List Int) (n : Nat) : Bytes (expandL key info n) := bytes_take (rowL_bytes _ _ _) _
theorem expandL_begins (key info : List Int) {n m : Nat} (h : n ≤ m) : (expandL key info m).take n = expandL key info n := by
  have hr : roundsOf n ≤ roundsOf m := by unfold roundsOf; omega
  obtain ⟨d, hd⟩ : ∃ d, roundsOf m = roundsOf n + d := ⟨roundsOf m - roundsOf n, by omega⟩
  rw [expandL, List.take_take, Nat.min_eq_left h, expandL, ← rowL_take key info (roundsOf n) d, List.take_take, hd, Nat.min_eq_left]
  unfold roundsOf; omega
end Go.Proofs.Ytkjbfkhiijnemaa.Hk
