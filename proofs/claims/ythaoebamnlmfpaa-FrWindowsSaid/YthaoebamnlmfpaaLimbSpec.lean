/-
  Own text. Numbers of many words of 64 bits as integers: the number of a list, the list of a number.
-/
import Derived.Test.YthaoebamnlmfpaaBase
namespace Go.Proofs.Ythaoebamnlmfpaa.Limb
open Go Go.Proofs.Ythaoebamnlmfpaa.Reg Go.Proofs.Ythaoebamnlmfpaa.Base

/-- The k-th power of 2^64. -/
def wp (k : Nat) : Int := 18446744073709551616 ^ k
theorem wp_zero : wp 0 = 1 := rfl
theorem wp_succ (k : Nat) : wp (k + 1) = wp k * 18446744073709551616 := Int.pow_succ _ _
theorem wp_pos (k : Nat) : 0 < wp k := Int.pow_pos (by omega)
theorem wp_add (a b : Nat) : wp (a + b) = wp a * wp b := Int.pow_add _ _ _

/-- All numbers of the list are words. -/
def Words (l : List Int) : Prop := ∀ i, 0 ≤ nth l i ∧ nth l i ≤ 18446744073709551615
theorem nth_nil (i : Nat) : nth [] i = 0 := by simp [nth]
theorem nth_ge {l : List Int} {i : Nat} (h : l.length ≤ i) : nth l i = 0 := by simp [nth, List.getElem?_eq_none h]
theorem words_of (l : List Int) (h : ∀ i, i < l.length → 0 ≤ nth l i ∧ nth l i ≤ 18446744073709551615) : Words l := fun i => by
  rcases Nat.lt_or_ge i l.length with hi | hi
  · exact h i hi
  · rw [nth_ge hi]; omega
theorem words_nil : Words [] := fun i => by rw [nth_nil]; omega
theorem words_append {l m : List Int} (hl : Words l) (hm : Words m) : Words (l ++ m) := fun i => by
  rcases Nat.lt_or_ge i l.length with h | h
  · rw [nth_append_left _ _ _ h]; exact hl i
  · rw [nth_append_right _ _ _ h]; exact hm _
theorem words_one {x : Int} (h0 : 0 ≤ x) (h1 : x ≤ 18446744073709551615) : Words [x] := fun i => by
  rcases i with _ | i
  · exact ⟨h0, h1⟩
  · simp [nth]
theorem words_zeros (n : Nat) : Words (List.replicate n 0) := fun i => by
  have : nth (List.replicate n 0) i = 0 := by
    simp only [nth, List.getD_eq_getElem?_getD, List.getElem?_replicate]
    split <;> rfl
  omega
theorem words_take {l : List Int} (h : Words l) (n : Nat) : Words (l.take n) := words_of _ fun i hi => by
  have : nth (l.take n) i = nth l i := by
    rw [List.length_take] at hi
    simp [nth, List.getElem?_take_of_lt (show i < n by omega)]
  rw [this]; exact h i
theorem words_set {l : List Int} (h : Words l) {i : Nat} {x : Int} (h0 : 0 ≤ x) (h1 : x ≤ 18446744073709551615) : Words (l.set i x) := fun j => by
  rcases Nat.lt_or_ge i l.length with hi | hi
  · rw [nth_set _ _ _ _ hi]
    split
    · exact ⟨h0, h1⟩
    · exact h j
  · rw [List.set_eq_of_length_le hi]; exact h j

/-- The number of the first k words. -/
def low (l : List Int) : Nat → Int
  | 0 => 0
  | k + 1 => low l k + wp k * nth l k
theorem low_zero (l : List Int) : low l 0 = 0 := rfl
theorem low_succ (l : List Int) (k : Nat) : low l (k + 1) = low l k + wp k * nth l k := rfl
/-- The number of a list. -/
def num (l : List Int) : Int := low l l.length
theorem num_nil : num [] = 0 := rfl
theorem low_congr {l m : List Int} : ∀ (k : Nat), (∀ i, i < k → nth l i = nth m i) → low l k = low m k
  | 0, _ => rfl
  | k + 1, h => by rw [low_succ, low_succ, low_congr k (fun i hi => h i (by omega)), h k (by omega)]
theorem low_ge (l : List Int) : ∀ (d : Nat), low l (l.length + d) = num l
  | 0 => rfl
  | d + 1 => by rw [← Nat.add_assoc, low_succ, low_ge l d, nth_ge (by omega), Int.mul_zero, Int.add_zero]
theorem low_num {l : List Int} {k : Nat} (h : l.length ≤ k) : low l k = num l := by
  obtain ⟨d, rfl⟩ : ∃ d, k = l.length + d := ⟨k - l.length, by omega⟩
  exact low_ge l d
theorem low_bounds {l : List Int} (h : Words l) : ∀ k, 0 ≤ low l k ∧ low l k < wp k
  | 0 => by rw [low_zero, wp_zero]; omega
  | k + 1 => by
    have ih := low_bounds h k
    have hw := h k
    rw [low_succ, wp_succ]
    have h1 : 0 ≤ wp k * nth l k := Int.mul_nonneg (Int.le_of_lt (wp_pos k)) hw.1
    have h2 : wp k * nth l k ≤ wp k * 18446744073709551615 := Int.mul_le_mul_of_nonneg_left hw.2 (Int.le_of_lt (wp_pos k))
    omega
theorem num_bounds {l : List Int} (h : Words l) : 0 ≤ num l ∧ num l < wp l.length := low_bounds h _
theorem low_append_left {l : List Int} (m : List Int) {k : Nat} (h : k ≤ l.length) : low (l ++ m) k = low l k := low_congr k fun i hi => nth_append_left _ _ _ (by omega)
theorem num_snoc (l : List Int) (x : Int) : num (l ++ [x]) = num l + wp l.length * x := by
  rw [num, List.length_append, List.length_singleton, low_succ, low_append_left _ (Nat.le_refl _), nth_append_right _ _ _ (Nat.le_refl _)]
  simp [nth, num]
theorem low_append (l m : List Int) : ∀ k, low (l ++ m) (l.length + k) = num l + wp l.length * low m k
  | 0 => by rw [Nat.add_zero, low_append_left _ (Nat.le_refl _), low_zero, Int.mul_zero, Int.add_zero, num]
  | k + 1 => by
    rw [← Nat.add_assoc, low_succ, low_append l m k, low_succ, wp_add, nth_append_right _ _ _ (by omega), show l.length + k - l.length = k by omega]
    grind
theorem num_append (l m : List Int) : num (l ++ m) = num l + wp l.length * num m := by
  rw [num, List.length_append, low_append]; rfl
theorem low_set {l : List Int} {i : Nat} (x : Int) (hi : i < l.length) : ∀ k, low (l.set i x) k = low l k + (if i < k then wp i * (x - nth l i) else 0)
  | 0 => by simp [low_zero]
  | k + 1 => by
    rw [low_succ, low_succ, low_set x hi k, nth_set _ _ _ _ hi]
    by_cases h1 : i = k
    · subst h1
      simp
      grind
    · rw [if_neg h1]
      by_cases h2 : i < k
      · rw [if_pos h2, if_pos (by omega)]; grind
      · rw [if_neg h2, if_neg (by omega)]; grind
theorem num_set {l : List Int} {i : Nat} (x : Int) (hi : i < l.length) : num (l.set i x) = num l + wp i * (x - nth l i) := by
  rw [num, List.length_set, low_set x hi, if_pos hi, num]
theorem num_zeros (n : Nat) : num (List.replicate n 0) = 0 := by
  have : ∀ k, low (List.replicate n 0) k = 0 := fun k => by
    induction k with
    | zero => rfl
    | succ k ih =>
      have : nth (List.replicate n 0) k = 0 := by
        simp only [nth, List.getD_eq_getElem?_getD, List.getElem?_replicate]
        split <;> rfl
      rw [low_succ, ih, this]; simp
  exact this _

theorem num_cons (x : Int) (l : List Int) : num (x :: l) = x + 18446744073709551616 * num l := by
  have h := num_append [x] l
  rw [List.singleton_append] at h
  rw [h]
  simp [num, low, nth, wp]
theorem num_drop {l : List Int} {k : Nat} (h : k < l.length) : num (l.drop k) = nth l k + 18446744073709551616 * num (l.drop (k + 1)) := by
  rw [List.drop_eq_getElem_cons h, num_cons]
  simp [nth, h]
theorem num_drop_all (l : List Int) : num (l.drop l.length) = 0 := by rw [List.drop_length]; rfl
theorem num_split (l : List Int) : ∀ k, k ≤ l.length → num l = low l k + wp k * num (l.drop k)
  | 0, _ => by rw [low_zero, wp_zero, List.drop_zero]; omega
  | k + 1, h => by rw [num_split l k (by omega), num_drop (by omega), low_succ, wp_succ]; grind
theorem words_drop {l : List Int} (h : Words l) (n : Nat) : Words (l.drop n) := fun i => by rw [nth_drop]; exact h _

/-- Quotient and rest, from a sum. -/
theorem split_of {p r q v : Int} (h0 : 0 ≤ r) (h1 : r < p) (h : r + p * q = v) : v % p = r ∧ v / p = q := by
  have := (Int.ediv_emod_unique (show 0 < p by omega) (a := v) (q := q) (r := r)).2 ⟨h, h0, h1⟩
  exact ⟨this.2, this.1⟩
theorem emod_step (v : Int) (k : Nat) : v % wp (k + 1) = v % wp k + wp k * (v / wp k % 18446744073709551616) := by
  have hp := wp_pos k
  have h1 := Int.mul_ediv_add_emod v (wp k)
  have h2 := Int.mul_ediv_add_emod (v / wp k) 18446744073709551616
  have b1 := Int.emod_nonneg v (Int.ne_of_gt hp)
  have b2 := Int.emod_lt_of_pos v hp
  have b3 := Int.emod_nonneg (v / wp k) (b := 18446744073709551616) (by omega)
  have b4 := Int.emod_lt_of_pos (v / wp k) (b := 18446744073709551616) (by omega)
  have c1 : 0 ≤ wp k * (v / wp k % 18446744073709551616) := Int.mul_nonneg (Int.le_of_lt hp) b3
  have c2 : wp k * (v / wp k % 18446744073709551616) ≤ wp k * 18446744073709551615 := Int.mul_le_mul_of_nonneg_left (by omega) (Int.le_of_lt hp)
  refine (split_of (q := v / wp k / 18446744073709551616) (by omega) (by rw [wp_succ]; omega) ?_).1
  rw [wp_succ]
  grind
/-- A number's lowest n words. -/
def wd (n : Nat) (v : Int) : List Int := tab n fun i => v / wp i % 18446744073709551616
theorem wd_len (n : Nat) (v : Int) : (wd n v).length = n := tab_len _ _
theorem wd_nth {n : Nat} (v : Int) {i : Nat} (hi : i < n) : nth (wd n v) i = v / wp i % 18446744073709551616 := tab_nth _ hi
theorem wd_words (n : Nat) (v : Int) : Words (wd n v) := words_of _ fun i hi => by
  rw [wd_len] at hi
  rw [wd_nth v hi]
  have := Int.emod_nonneg (v / wp i) (b := 18446744073709551616) (by omega)
  have := Int.emod_lt_of_pos (v / wp i) (b := 18446744073709551616) (by omega)
  omega
theorem low_wd (n : Nat) (v : Int) : ∀ k, k ≤ n → low (wd n v) k = v % wp k
  | 0, _ => by rw [low_zero, wp_zero, Int.emod_one]
  | k + 1, h => by rw [low_succ, low_wd n v k (by omega), wd_nth v (by omega), emod_step]
theorem num_wd (n : Nat) (v : Int) : num (wd n v) = v % wp n := by rw [num, wd_len, low_wd n v n (Nat.le_refl _)]
theorem words_inj {l m : List Int} (hl : Words l) (hm : Words m) : ∀ k, low l k = low m k → ∀ i, i < k → nth l i = nth m i
  | 0, _, i, hi => by omega
  | k + 1, h, i, hi => by
    rw [low_succ, low_succ] at h
    have a1 := low_bounds hl k
    have a2 := low_bounds hm k
    have s1 := split_of a1.1 a1.2 (rfl : low l k + wp k * nth l k = _)
    have s2 := split_of a2.1 a2.2 (rfl : low m k + wp k * nth m k = _)
    rw [h] at s1
    have e1 : low l k = low m k := s1.1.symm.trans s2.1
    have e2 : nth l k = nth m k := s1.2.symm.trans s2.2
    rcases Nat.lt_or_ge i k with h' | h'
    · exact words_inj hl hm k e1 i h'
    · obtain rfl : i = k := by omega
      exact e2
theorem num_inj {l m : List Int} (hl : Words l) (hm : Words m) (hlen : l.length = m.length) (h : num l = num m) : l = m :=
  ext_nth hlen fun i hi => words_inj hl hm l.length (by rw [num, num, ← hlen] at h; exact h) i hi
theorem wd_num {l : List Int} (h : Words l) {n : Nat} (hn : l.length = n) : wd n (num l) = l := by
  refine num_inj (wd_words _ _) h (by rw [wd_len, hn]) ?_
  have := num_bounds h
  rw [num_wd, ← hn, Int.emod_eq_of_lt this.1 this.2]
/-- A list of words is known by its number and what stands above. -/
theorem wd_of {out : List Int} {n : Nat} {c v : Int} (h : Words out) (hn : out.length = n) (e : num out + wp n * c = v) : out = wd n v ∧ c = v / wp n := by
  have b := num_bounds h
  rw [hn] at b
  have s := split_of b.1 b.2 e
  refine ⟨num_inj h (wd_words _ _) (by rw [wd_len, hn]) ?_, s.2.symm⟩
  rw [num_wd, s.1]
theorem wd_congr {n : Nat} {v v' : Int} (h : v % wp n = v' % wp n) : wd n v = wd n v' := by
  refine num_inj (wd_words _ _) (wd_words _ _) (by rw [wd_len, wd_len]) ?_
  rw [num_wd, num_wd, h]
theorem num_wd_of {n : Nat} {v : Int} (h0 : 0 ≤ v) (h1 : v < wp n) : num (wd n v) = v := by rw [num_wd, Int.emod_eq_of_lt h0 h1]
theorem wd_succ (n : Nat) (v : Int) : wd (n + 1) v = wd n v ++ [v / wp n % 18446744073709551616] := by
  refine ext_nth (by rw [wd_len, List.length_append, wd_len]; rfl) fun i hi => ?_
  rw [wd_len] at hi
  rw [wd_nth v hi]
  rcases Nat.lt_or_ge i n with h | h
  · rw [nth_append_left _ _ _ (by rw [wd_len]; exact h), wd_nth v h]
  · obtain rfl : i = n := by omega
    rw [nth_append_right _ _ _ (by rw [wd_len]; exact Nat.le_refl _), wd_len]
    simp [nth]
theorem words_wf {l : List Int} (h : ∀ n ∈ l, (Lit.int .u64 n).wf = true) : Words l := words_of _ fun i hi => by
  have := bounds_u64 (h _ (nth_mem hi))
  omega
end Go.Proofs.Ythaoebamnlmfpaa.Limb
