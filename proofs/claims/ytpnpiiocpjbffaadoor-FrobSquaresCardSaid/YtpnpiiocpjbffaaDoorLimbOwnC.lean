/-
  Own text. The contracts of package limb: Octets, Words.
-/
import Derived.Test.YtpnpiiocpjbffaaDoorLimbOwnA
namespace Go.Proofs.YtpnpiiocpjbffaaDoor.Limb
open Go Go.RowKit Go.Proofs.YtpnpiiocpjbffaaDoor.Reg Go.Proofs.YtpnpiiocpjbffaaDoor.Base

/-- A number's lowest k bytes, set at the end of N bytes. -/
def octT (a : List Int) (N k : Nat) : List Int := tab N fun j => if N ≤ j + k then num a / tp (8 * (N - 1 - j)) % 256 else 0
theorem octT_len (a : List Int) (N k : Nat) : (octT a N k).length = N := tab_len _ _
theorem octT_zero (a : List Int) (N : Nat) : octT a N 0 = List.replicate N 0 := by
  refine (tab_eq (by simp) fun j hj => ?_).symm
  rw [if_neg (by omega)]
  simp [nth, hj]
theorem octT_all (a : List Int) (N : Nat) : octT a N N = octL a N := by
  refine (tab_eq (octL_len a N) fun j hj => ?_).symm
  rw [if_pos (by omega), octL_nth a hj]
theorem octT_set {a : List Int} {N k q : Nat} (hk : k < N) (hq : N - 1 - k = q) {x : Int} (hx : x = num a / tp (8 * k) % 256) : (octT a N k).set q x = octT a N (k + 1) := by
  refine tab_set _ _ (by omega) ?_ (fun j hj hne => ?_)
  · rw [if_pos (by omega), show N - 1 - q = k by omega]; exact hx
  · by_cases h : N ≤ j + k
    · rw [if_pos h, if_pos (by omega)]
    · rw [if_neg h, if_neg (by omega)]

/-- The number of the last bytes, so many of n. -/
def ln (b : List Int) (n : Nat) : Nat → Int
  | 0 => 0
  | i + 1 => ln b n i + nth b (n - 1 - i) * tp (8 * i)
theorem ln_succ (b : List Int) (n i : Nat) : ln b n (i + 1) = ln b n i + nth b (n - 1 - i) * tp (8 * i) := rfl
theorem tp8_succ (i : Nat) : tp (8 * (i + 1)) = tp (8 * i) * 256 := by
  have e8 : tp 8 = 256 := rfl
  rw [Nat.mul_succ, tp_add, e8]
theorem ln_bounds {b : List Int} (h : Bytes b) (n : Nat) : ∀ i, 0 ≤ ln b n i ∧ ln b n i < tp (8 * i)
  | 0 => by simp [ln, tp_zero]
  | i + 1 => by
    have ih := ln_bounds h n i
    have hb := h (n - 1 - i)
    have p := tp_pos (8 * i)
    have h1 : nth b (n - 1 - i) * tp (8 * i) ≤ 255 * tp (8 * i) := Int.mul_le_mul_of_nonneg_right hb.2 (by omega)
    have h2 : 0 ≤ nth b (n - 1 - i) * tp (8 * i) := Int.mul_nonneg hb.1 (by omega)
    rw [ln_succ, tp8_succ]
    omega
theorem ln_eq (b : List Int) (n : Nat) : ∀ i, i ≤ n → bn b n = bn b (n - i) * tp (8 * i) + ln b n i
  | 0, _ => by simp [ln, tp_zero]
  | i + 1, h => by
    rw [ln_eq b n i (by omega), ln_succ, tp8_succ]
    obtain ⟨j, hj⟩ : ∃ j, n - i = j + 1 := ⟨n - i - 1, by omega⟩
    rw [hj, bn_succ, show n - (i + 1) = j by omega, show n - 1 - i = j by omega]
    grind
theorem ln_all (b : List Int) (n : Nat) : ln b n n = bn b n := by
  have := ln_eq b n n (Nat.le_refl _)
  rw [Nat.sub_self, show bn b 0 = 0 from rfl, Int.zero_mul] at this
  omega
theorem tp_le {i j : Nat} (h : i ≤ j) : tp i ≤ tp j := by
  obtain ⟨d, rfl⟩ : ∃ d, j = i + d := ⟨j - i, by omega⟩
  rw [tp_add]
  have h1 := tp_pos i
  have h2 := tp_pos d
  have : tp i * 1 ≤ tp i * tp d := Int.mul_le_mul_of_nonneg_left (by omega) (by omega)
  omega
theorem or_up {z x : Int} (s : Nat) (hz0 : 0 ≤ z) (hz : z < 2 ^ s) (hz1 : z < 18446744073709551616) (hx0 : 0 ≤ x) (hx : x % 2 ^ s = 0) (hx1 : x < 18446744073709551616) : bits .or .u64 z x = z + x := by
  have hc : bits .or .u64 z x = bits .or .u64 x z := by simp only [bits, BitVec.or_comm]
  rw [hc, bits_join .u64 64 (by decide) (fun n h0 h1 => by rw [IntKind.wrap_u64]; omega) s x z hx0 hx hx1 hz0 hz hz1, Int.add_comm]
theorem wln_room {b : List Int} (hb : Bytes b) {n k m : Nat} (hq : k / 8 < m) :
    0 ≤ nth (wd m (ln b n k)) (k / 8) ∧ nth (wd m (ln b n k)) (k / 8) < 2 ^ (8 * (k % 8)) ∧ 0 ≤ nth b (n - 1 - k) * 2 ^ (8 * (k % 8)) ∧ nth b (n - 1 - k) * 2 ^ (8 * (k % 8)) % 2 ^ (8 * (k % 8)) = 0 ∧ nth (wd m (ln b n k)) (k / 8) + nth b (n - 1 - k) * 2 ^ (8 * (k % 8)) ≤ 18446744073709551615 := by
  have h1 := ln_bounds hb n k
  have h2 := hb (n - 1 - k)
  obtain ⟨s, hs⟩ : ∃ s, 8 * (k % 8) = s := ⟨_, rfl⟩
  have ek : tp (8 * k) = wp (k / 8) * tp s := by rw [← tp_wp, ← tp_add]; congr 1; omega
  have pw := wp_pos (k / 8)
  have ps := tp_pos s
  have d0 : 0 ≤ ln b n k / wp (k / 8) := Int.ediv_nonneg h1.1 (by omega)
  have d1 : ln b n k / wp (k / 8) < tp s := Int.ediv_lt_of_lt_mul pw (by rw [Int.mul_comm, ← ek]; exact h1.2)
  have t8 : tp (s + 8) ≤ tp 64 := tp_le (by omega)
  have e64 : tp 64 = 18446744073709551616 := rfl
  have e8 : tp 8 = 256 := rfl
  rw [tp_add, e8, e64] at t8
  have hm : nth (wd m (ln b n k)) (k / 8) = ln b n k / wp (k / 8) := by
    rw [wd_nth _ hq, Int.emod_eq_of_lt d0 (by omega)]
  rw [hm, hs, show (2 : Int) ^ s = tp s from rfl]
  have h3 : nth b (n - 1 - k) * tp s ≤ 255 * tp s := Int.mul_le_mul_of_nonneg_right h2.2 (by omega)
  exact ⟨d0, d1, Int.mul_nonneg h2.1 (by omega), Int.mul_emod_left _ _, by omega⟩
theorem wln_step {b : List Int} (hb : Bytes b) {n k m : Nat} (hq : k / 8 < m) (hm : k + 1 ≤ 8 * m) :
    (wd m (ln b n k)).set (k / 8) (nth (wd m (ln b n k)) (k / 8) + nth b (n - 1 - k) * 2 ^ (8 * (k % 8))) = wd m (ln b n (k + 1)) := by
  have hr := wln_room hb (n := n) hq
  have h1 := ln_bounds hb n k
  have h2 := ln_bounds hb n (k + 1)
  have l1 : tp (8 * k) ≤ wp m := by rw [← tp_wp]; exact tp_le (by omega)
  have l2 : tp (8 * (k + 1)) ≤ wp m := by rw [← tp_wp]; exact tp_le (by omega)
  refine num_inj (words_set (wd_words _ _) (by omega) hr.2.2.2.2) (wd_words _ _) (by rw [List.length_set, wd_len, wd_len]) ?_
  rw [num_set _ (by rw [wd_len]; exact hq), num_wd_of h1.1 (by omega), num_wd_of h2.1 (by omega), ln_succ]
  have e3 : wp (k / 8) * 2 ^ (8 * (k % 8)) = tp (8 * k) := by
    rw [← tp_wp, show (2 : Int) ^ (8 * (k % 8)) = tp (8 * (k % 8)) from rfl, ← tp_add]; congr 1; omega
  rw [← e3]
  grind

end Go.Proofs.YtpnpiiocpjbffaaDoor.Limb
