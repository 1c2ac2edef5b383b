/-
  Own text. The contracts of layer 3's reference: At, Add, Sub.
-/
import Derived.Test.YtpnpiiocpjbffaaDoorMReg
namespace Go.Proofs.YtpnpiiocpjbffaaDoor.Limb
open Go Go.RowKit Go.Proofs.YtpnpiiocpjbffaaDoor.Reg Go.Proofs.YtpnpiiocpjbffaaDoor.Base

/-- The sum's words, and what is carried. -/
def addL (a b : List Int) : List Int := wd (max a.length b.length) (num a + num b)
def addC (a b : List Int) : Int := (num a + num b) / wp (max a.length b.length)
def subL (a b : List Int) : List Int := wd (max a.length b.length) (num a - num b)
def subC (a b : List Int) : Int := if num a < num b then 1 else 0

/-- One step of a sum: words o below, what is carried. -/
theorem add_step {o a b : List Int} {k : Nat} {cy t nx : Int} (ho : o.length = k) (hi : num o + wp k * cy = low a k + low b k) (hx : t + 18446744073709551616 * nx = nth a k + nth b k + cy) :
    num (o ++ [t]) + wp (k + 1) * nx = low a (k + 1) + low b (k + 1) := by
  rw [num_snoc, ho, wp_succ, low_succ, low_succ]
  grind
theorem sub_step {o a b : List Int} {k : Nat} {cy t nx : Int} (ho : o.length = k) (hi : num o - wp k * cy = low a k - low b k) (hx : t - 18446744073709551616 * nx = nth a k - nth b k - cy) :
    num (o ++ [t]) - wp (k + 1) * nx = low a (k + 1) - low b (k + 1) := by
  rw [num_snoc, ho, wp_succ, low_succ, low_succ]
  grind
theorem add_end {o a b : List Int} {n n' k : Nat} {cy : Int} (la : a.length = n) (lb : b.length = n') (hk : max n n' = k) (hw : Words o) (ho : o.length = k) (hi : num o + wp k * cy = low a k + low b k) : o = addL a b ∧ cy = addC a b := by
  rw [low_num (by omega), low_num (by omega)] at hi
  have := wd_of hw ho hi
  rw [addL, addC, la, lb, hk]
  exact this
theorem sub_end {o a b : List Int} {n n' k : Nat} {cy : Int} (la : a.length = n) (lb : b.length = n') (hk : max n n' = k) (hw : Words o) (ho : o.length = k) (h0 : cy = 0 ∨ cy = 1) (hi : num o - wp k * cy = low a k - low b k) : o = subL a b ∧ cy = subC a b := by
  rw [low_num (by omega), low_num (by omega)] at hi
  have h1 := wd_of (c := -cy) (v := num a - num b) hw ho (by rw [← hi]; grind)
  refine ⟨by rw [subL, la, lb, hk]; exact h1.1, ?_⟩
  have hb := num_bounds hw
  rw [ho] at hb
  unfold subC
  rcases h0 with rfl | rfl
  · rw [if_neg (by omega)]
  · rw [if_pos (by omega)]

end Go.Proofs.YtpnpiiocpjbffaaDoor.Limb

/-
  Own text. The contracts of layer 3's reference: Cmp, Same, twice.
-/
namespace Go.Proofs.YtpnpiiocpjbffaaDoor.Limb
open Go Go.RowKit Go.Proofs.YtpnpiiocpjbffaaDoor.Reg Go.Proofs.YtpnpiiocpjbffaaDoor.Base

/-- The order of two numbers. -/
def cmpL (a b : List Int) : Int := if num a < num b then -1 else if num a = num b then 0 else 1
theorem num_low {l : List Int} {k : Nat} (h : l.length ≤ k) : num l = low l k := (low_num h).symm
theorem low_high {a b : List Int} {k : Nat} (h : ∀ j, k ≤ j → nth a j = nth b j) : ∀ d, low a (k + d) - low b (k + d) = low a k - low b k
  | 0 => rfl
  | d + 1 => by
    rw [← Nat.add_assoc, low_succ, low_succ, h (k + d) (by omega)]
    have := low_high h d
    omega
theorem num_high {a b : List Int} {k : Nat} (h : ∀ j, k ≤ j → nth a j = nth b j) : num a - num b = low a k - low b k := by
  rw [num_low (show a.length ≤ k + (a.length + b.length) by omega), num_low (show b.length ≤ k + (a.length + b.length) by omega)]
  exact low_high h _
theorem low_less {a b : List Int} (ha : Words a) (hb : Words b) {k : Nat} (h : nth a k < nth b k) : low a (k + 1) < low b (k + 1) := by
  rw [low_succ, low_succ]
  have h1 := low_bounds ha k
  have h2 := low_bounds hb k
  have h3 : wp k * (nth a k + 1) ≤ wp k * nth b k := Int.mul_le_mul_of_nonneg_left (by omega) (Int.le_of_lt (wp_pos k))
  rw [Int.mul_add, Int.mul_one] at h3
  omega
theorem cmp_lt {a b : List Int} (ha : Words a) (hb : Words b) {k : Nat} (he : ∀ j, k + 1 ≤ j → nth a j = nth b j) (h : nth a k < nth b k) : cmpL a b = -1 := by
  have h1 := num_high he
  have h2 := low_less ha hb h
  unfold cmpL
  rw [if_pos (by omega)]
theorem cmp_gt {a b : List Int} (ha : Words a) (hb : Words b) {k : Nat} (he : ∀ j, k + 1 ≤ j → nth a j = nth b j) (h : nth b k < nth a k) : cmpL a b = 1 := by
  have h1 := num_high he
  have h2 := low_less hb ha h
  unfold cmpL
  rw [if_neg (by omega), if_neg (by omega)]
theorem cmp_eq {a b : List Int} (he : ∀ j, 0 ≤ j → nth a j = nth b j) : cmpL a b = 0 := by
  have h1 := num_high he
  rw [low_zero, low_zero] at h1
  unfold cmpL
  rw [if_neg (by omega), if_pos (by omega)]

end Go.Proofs.YtpnpiiocpjbffaaDoor.Limb

/-
  Own text. The contracts of layer 3's reference: Mul, Mod.
-/
namespace Go.Proofs.YtpnpiiocpjbffaaDoor.Limb
open Go Go.RowKit Go.Proofs.YtpnpiiocpjbffaaDoor.Reg Go.Proofs.YtpnpiiocpjbffaaDoor.Base

/-- The k-th power of 2. -/
def tp (k : Nat) : Int := 2 ^ k
theorem tp_zero : tp 0 = 1 := rfl
theorem tp_succ (k : Nat) : tp (k + 1) = tp k * 2 := Int.pow_succ _ _
theorem tp_pos (k : Nat) : 0 < tp k := Int.pow_pos (by omega)
theorem tp_add (a b : Nat) : tp (a + b) = tp a * tp b := Int.pow_add _ _ _
theorem tp_wp (k : Nat) : tp (64 * k) = wp k := by
  induction k with
  | zero => rfl
  | succ k ih => rw [Nat.mul_succ, tp_add, ih, wp_succ]; rfl
theorem div_div {a b c : Int} (hb : 0 < b) : a / b / c = a / (b * c) := by
  rw [Int.ediv_ediv]
  rw [if_neg (by omega), Int.sub_zero]
/-- A number's i-th bit, and the number above it. -/
def bitL (l : List Int) (i : Nat) : Int := nth l (i / 64) / tp (i % 64) % 2
theorem low_div (l : List Int) (hw : Words l) (q d : Nat) : low l (q + 1 + d) / wp q % 18446744073709551616 = nth l q := by
  have h1 : ∃ z, low l (q + 1 + d) = low l q + wp q * (nth l q + 18446744073709551616 * z) := by
    induction d with
    | zero => exact ⟨0, by rw [Nat.add_zero, low_succ]; grind⟩
    | succ d ih =>
      obtain ⟨z, hz⟩ := ih
      refine ⟨z + wp d * nth l (q + 1 + d), ?_⟩
      rw [← Nat.add_assoc, low_succ, hz, wp_add, wp_succ]
      grind
  obtain ⟨z, hz⟩ := h1
  have hb := low_bounds hw q
  have hq := hw q
  rw [(split_of hb.1 hb.2 hz.symm).2]
  omega
theorem num_word (l : List Int) (hw : Words l) (q : Nat) : num l / wp q % 18446744073709551616 = nth l q := by
  rw [num_low (show l.length ≤ q + 1 + l.length by omega)]
  exact low_div l hw q _
theorem num_bit {l : List Int} (hw : Words l) (i : Nat) : num l / tp i % 2 = bitL l i := by
  have h := num_word l hw (i / 64)
  have hi : tp i = wp (i / 64) * tp (i % 64) := by rw [← tp_wp, ← tp_add]; congr 1; omega
  rw [bitL, ← h, hi, ← div_div (wp_pos _)]
  obtain ⟨v, hv⟩ : ∃ v, num l / wp (i / 64) = v := ⟨_, rfl⟩
  rw [hv]
  have hm : i % 64 < 64 := Nat.mod_lt _ (by omega)
  obtain ⟨d, hd⟩ : ∃ d, 63 = i % 64 + d := ⟨63 - i % 64, by omega⟩
  have hW : (18446744073709551616 : Int) = tp (i % 64) * (2 * tp d) := by
    have h64 : (18446744073709551616 : Int) = tp (i % 64 + (1 + d)) := by rw [show i % 64 + (1 + d) = 64 by omega]; rfl
    rw [tp_add, tp_add] at h64
    exact h64
  have e := Int.mul_ediv_add_emod v 18446744073709551616
  have b := Int.emod_nonneg v (b := 18446744073709551616) (by omega)
  have e2 := Int.mul_ediv_add_emod (v % 18446744073709551616) (tp (i % 64))
  have b2 := Int.emod_nonneg (v % 18446744073709551616) (Int.ne_of_gt (tp_pos (i % 64)))
  have b3 := Int.emod_lt_of_pos (v % 18446744073709551616) (tp_pos (i % 64))
  obtain ⟨r, hr⟩ : ∃ r, v % 18446744073709551616 % tp (i % 64) = r := ⟨_, rfl⟩
  obtain ⟨q, hq⟩ : ∃ q, v % 18446744073709551616 / tp (i % 64) = q := ⟨_, rfl⟩
  rw [hr, hq] at e2
  rw [hr] at b2 b3
  have e3 : r + tp (i % 64) * (q + 2 * (tp d * (v / 18446744073709551616))) = v := by
    rw [hW] at e e2 ⊢
    grind
  rw [(split_of b2 b3 e3).2, hq]
  omega
theorem num_shift (v : Int) (i : Nat) : v / tp i = 2 * (v / tp (i + 1)) + v / tp i % 2 := by
  rw [tp_succ, ← div_div (tp_pos i)]
  omega

theorem wd_twice (n : Nat) (v : Int) : wd n (2 * num (wd n v)) = wd n (2 * v) := wd_congr (by rw [num_wd, Int.mul_emod, Int.emod_emod, ← Int.mul_emod])
theorem wd_plus (n : Nat) (v x : Int) : wd n (num (wd n v) + x) = wd n (v + x) := wd_congr (by rw [num_wd, Int.emod_add_emod])
theorem and_one {x : Int} (h0 : 0 ≤ x) (h1 : x ≤ 18446744073709551615) : bits .and .u64 x 1 = x % 2 := by
  have h2 : x < 18446744073709551616 := by omega
  go_bits2
theorem shr_bounds {y : Int} (h0 : 0 ≤ y) (h1 : y ≤ 18446744073709551615) (k : Nat) : 0 ≤ y / 2 ^ k ∧ y / 2 ^ k ≤ 18446744073709551615 := by
  have hp : (0 : Int) < 2 ^ k := Int.pow_pos (by omega)
  refine ⟨Int.ediv_nonneg h0 (Int.le_of_lt hp), ?_⟩
  have := Int.ediv_le_self (2 ^ k) h0
  omega
theorem mul_step {x : Int} {b : List Int} (hb : Words b) (L i : Nat) : wd L (2 * (x * (num b / tp (i + 1))) + x * bitL b i) = wd L (x * (num b / tp i)) := by
  rw [num_shift (num b) i, num_bit hb]
  congr 1
  grind

end Go.Proofs.YtpnpiiocpjbffaaDoor.Limb

/-
  Own text. The contract of layer 3's reference: Mod.
-/
namespace Go.Proofs.YtpnpiiocpjbffaaDoor.Limb
open Go Go.RowKit Go.Proofs.YtpnpiiocpjbffaaDoor.Reg Go.Proofs.YtpnpiiocpjbffaaDoor.Base

theorem wd_take {n m : Nat} (h : m ≤ n) (v : Int) : (wd n v).take m = wd m v := by
  refine ext_nth (by rw [List.length_take, wd_len, wd_len]; omega) fun i hi => ?_
  rw [List.length_take, wd_len] at hi
  rw [nth_take (by omega), wd_nth v (by omega), wd_nth v (by omega)]
theorem wd_pos {n : Nat} (hn : 0 < n) (v : Int) : nth (wd n v) 0 = v % 18446744073709551616 := by rw [wd_nth v hn, wp_zero, Int.ediv_one]
/-- A bit is put below a number's double. -/
theorem wd_bit {n : Nat} (hn : 0 < n) {v β : Int} (hb : β = 0 ∨ β = 1) (h0 : 0 ≤ v) (h1 : 2 * v + β < wp n) : (wd n (2 * v)).set 0 (nth (wd n (2 * v)) 0 + β) = wd n (2 * v + β) := by
  have hz := wd_pos hn (2 * v)
  have hw : Words ((wd n (2 * v)).set 0 (nth (wd n (2 * v)) 0 + β)) := words_set (wd_words _ _) (by rw [hz]; omega) (by rw [hz]; omega)
  refine num_inj hw (wd_words _ _) (by rw [List.length_set, wd_len, wd_len]) ?_
  rw [num_set _ (by rw [wd_len]; exact hn), num_wd_of (by omega) (by omega), num_wd_of (by omega) h1, wp_zero]
  omega
theorem mod_step (q m β : Int) : (2 * (q % m) + β) % m = (2 * q + β) % m := by
  rw [Int.add_emod, Int.mul_emod, Int.emod_emod, ← Int.mul_emod, ← Int.add_emod]
theorem mod_less {u m : Int} (h0 : 0 ≤ u) (h1 : u < m) : u = u % m := (Int.emod_eq_of_lt h0 h1).symm
theorem mod_minus {u m : Int} (h0 : m ≤ u) (h1 : u < 2 * m) : u - m = u % m := by
  have := Int.sub_emod_right u m
  rw [← this, Int.emod_eq_of_lt (by omega) (by omega)]

end Go.Proofs.YtpnpiiocpjbffaaDoor.Limb

/-
  Own text. The contracts of layer 3's reference: Octets, Words.
-/
namespace Go.Proofs.YtpnpiiocpjbffaaDoor.Limb
open Go Go.RowKit Go.Proofs.YtpnpiiocpjbffaaDoor.Reg Go.Proofs.YtpnpiiocpjbffaaDoor.Base

/-- Some bits of a word are those of the number. -/
theorem mod_div (v : Int) (s t d : Nat) : v % tp (s + t + d) / tp s % tp t = v / tp s % tp t := by
  have e := Int.mul_ediv_add_emod v (tp (s + t + d))
  obtain ⟨q, hq⟩ : ∃ q, v / tp (s + t + d) = q := ⟨_, rfl⟩
  obtain ⟨r, hr⟩ : ∃ r, v % tp (s + t + d) = r := ⟨_, rfl⟩
  rw [hq, hr] at e
  rw [hr]
  have h1 : v / tp s = r / tp s + tp t * (tp d * q) := by
    have e2 := Int.mul_ediv_add_emod r (tp s)
    have b2 := Int.emod_nonneg r (Int.ne_of_gt (tp_pos s))
    have b3 := Int.emod_lt_of_pos r (tp_pos s)
    refine (split_of b2 b3 ?_).2
    rw [← e, tp_add, tp_add]
    rw [← e2]
    grind
  rw [h1, Int.add_mul_emod_self_left]
theorem num_part {l : List Int} (hw : Words l) (q s t d : Nat) (h : s + t + d = 64) : nth l q / tp s % tp t = num l / tp (64 * q + s) % tp t := by
  have h0 := num_word l hw q
  have hW : (18446744073709551616 : Int) = tp (s + t + d) := by rw [h]; rfl
  rw [← h0, hW, mod_div, div_div (wp_pos _), ← tp_wp, ← tp_add]

/-- A number's n lowest bytes, the highest first. -/
def octL (a : List Int) (n : Nat) : List Int := tab n fun i => num a / tp (8 * (n - 1 - i)) % 256
theorem octL_len (a : List Int) (n : Nat) : (octL a n).length = n := tab_len _ _
theorem octL_nth (a : List Int) {n i : Nat} (h : i < n) : nth (octL a n) i = num a / tp (8 * (n - 1 - i)) % 256 := tab_nth _ h
theorem octL_bytes (a : List Int) (n : Nat) : Bytes (octL a n) := bytes_of _ fun i hi => by
  rw [octL_len] at hi
  rw [octL_nth a hi]
  omega
theorem oct_byte {a : List Int} (hw : Words a) (q : Nat) : nth a (q / 8) / 2 ^ (8 * (q % 8)) % 256 = num a / tp (8 * q) % 256 := by
  have h := num_part hw (q / 8) (8 * (q % 8)) 8 (56 - 8 * (q % 8)) (by omega)
  have e8 : tp 8 = 256 := rfl
  rw [e8, show 64 * (q / 8) + 8 * (q % 8) = 8 * q by omega] at h
  exact h

/-- The number of the first k bytes, the highest first. -/
def bn (b : List Int) : Nat → Int
  | 0 => 0
  | k + 1 => bn b k * 256 + nth b k
theorem bn_succ (b : List Int) (k : Nat) : bn b (k + 1) = bn b k * 256 + nth b k := rfl
def bnum (b : List Int) : Int := bn b b.length
theorem bn_bounds {b : List Int} (h : Bytes b) : ∀ k, 0 ≤ bn b k ∧ bn b k < tp (8 * k)
  | 0 => by simp [bn, tp_zero]
  | k + 1 => by
    have ih := bn_bounds h k
    have hb := h k
    have e8 : tp 8 = 256 := rfl
    rw [bn_succ, Nat.mul_succ, tp_add, e8]
    omega
/-- The number of bytes, in as few words as hold them. -/
def wordsL (b : List Int) : List Int := wd ((b.length + 7) / 8) (bnum b)

theorem words_fit {b : List Int} (hb : Bytes b) {k at_ m : Nat} (hm : k + 1 + at_ ≤ 8 * m) : bn b k * tp (8 * (at_ + 1)) + nth b k * tp (8 * at_) < wp m ∧ 0 ≤ bn b k * tp (8 * (at_ + 1)) := by
  have h1 := bn_bounds hb k
  have h2 := hb k
  have p := tp_pos (8 * at_)
  have e8 : tp 8 = 256 := rfl
  have e1 : tp (8 * (at_ + 1)) = tp (8 * at_) * 256 := by rw [Nat.mul_succ, tp_add, e8]
  have h3 : (bn b k + 1) * (tp (8 * at_) * 256) ≤ tp (8 * k) * (tp (8 * at_) * 256) := Int.mul_le_mul_of_nonneg_right (by omega) (by omega)
  have h4 : tp (8 * k) * (tp (8 * at_) * 256) = tp (8 * (k + 1 + at_)) := by rw [← e8, ← tp_add, ← tp_add]; congr 1; omega
  have h5 : nth b k * tp (8 * at_) ≤ 255 * tp (8 * at_) := Int.mul_le_mul_of_nonneg_right h2.2 (by omega)
  have h6 : tp (8 * (k + 1 + at_)) ≤ wp m := by
    rw [← tp_wp]
    obtain ⟨d, hd⟩ : ∃ d, 64 * m = 8 * (k + 1 + at_) + d := ⟨64 * m - 8 * (k + 1 + at_), by omega⟩
    rw [hd, tp_add]
    have := tp_pos d
    have h7 := tp_pos (8 * (k + 1 + at_))
    have h8 : tp (8 * (k + 1 + at_)) * 1 ≤ tp (8 * (k + 1 + at_)) * tp d := Int.mul_le_mul_of_nonneg_left (by omega) (by omega)
    omega
  refine ⟨?_, Int.mul_nonneg h1.1 (by omega)⟩
  rw [Int.add_mul, Int.one_mul] at h3
  rw [e1]
  omega
theorem word_room {b : List Int} (hb : Bytes b) {k at_ m : Nat} (hq : at_ / 8 < m) :
    0 ≤ nth (wd m (bn b k * tp (8 * (at_ + 1)))) (at_ / 8) ∧ nth (wd m (bn b k * tp (8 * (at_ + 1)))) (at_ / 8) + nth b k * 2 ^ (8 * (at_ % 8)) ≤ 18446744073709551615 := by
  have h1 := bn_bounds hb k
  have h2 := hb k
  obtain ⟨s, hs⟩ : ∃ s, 8 * (at_ % 8) = s := ⟨_, rfl⟩
  obtain ⟨d, hd⟩ : ∃ d, 56 = s + d := ⟨56 - s, by omega⟩
  have e8 : tp 8 = 256 := rfl
  have eW : (18446744073709551616 : Int) = tp (s + 8) * tp d := by rw [← tp_add, show s + 8 + d = 64 by omega]; rfl
  have ev : bn b k * tp (8 * (at_ + 1)) = wp (at_ / 8) * (tp (s + 8) * bn b k) := by
    rw [← tp_wp, show 8 * (at_ + 1) = 64 * (at_ / 8) + (s + 8) by omega, tp_add (64 * (at_ / 8))]
    grind
  rw [wd_nth _ hq, ev, Int.mul_ediv_cancel_left _ (Int.ne_of_gt (wp_pos _)), hs, show (2 : Int) ^ s = tp s from rfl]
  rw [show tp (s + 8) * bn b k % 18446744073709551616 = tp (s + 8) * (bn b k % tp d) by rw [eW, Int.mul_emod_mul_of_pos _ _ (tp_pos _)]]
  have b1 := Int.emod_nonneg (bn b k) (Int.ne_of_gt (tp_pos d))
  have b2 := Int.emod_lt_of_pos (bn b k) (tp_pos d)
  have p8 := tp_pos (s + 8)
  have p := tp_pos s
  have h3 : tp (s + 8) * (bn b k % tp d) ≤ tp (s + 8) * (tp d - 1) := Int.mul_le_mul_of_nonneg_left (by omega) (by omega)
  rw [Int.mul_sub, ← eW, Int.mul_one] at h3
  have h5 : nth b k * tp s ≤ 255 * tp s := Int.mul_le_mul_of_nonneg_right h2.2 (by omega)
  have e1 : tp (s + 8) = tp s * 256 := by rw [tp_add, e8]
  refine ⟨Int.mul_nonneg (by omega) b1, ?_⟩
  omega
theorem words_step {b : List Int} (hb : Bytes b) {k at_ m : Nat} (hq : at_ / 8 < m) (hm : k + 1 + at_ ≤ 8 * m) :
    (wd m (bn b k * tp (8 * (at_ + 1)))).set (at_ / 8) (nth (wd m (bn b k * tp (8 * (at_ + 1)))) (at_ / 8) + nth b k * 2 ^ (8 * (at_ % 8))) = wd m (bn b (k + 1) * tp (8 * at_)) := by
  have hr := word_room hb (k := k) hq
  have hf := words_fit hb hm
  have h2 := hb k
  have p := tp_pos (8 * at_)
  have e8 : tp 8 = 256 := rfl
  have ex : (0 : Int) ≤ nth b k * 2 ^ (8 * (at_ % 8)) := Int.mul_nonneg h2.1 (Int.le_of_lt (Int.pow_pos (by omega)))
  have en : bn b (k + 1) * tp (8 * at_) = bn b k * tp (8 * (at_ + 1)) + nth b k * tp (8 * at_) := by
    rw [bn_succ, Nat.mul_succ, tp_add, e8]; grind
  have ey : 0 ≤ nth b k * tp (8 * at_) := Int.mul_nonneg h2.1 (by omega)
  refine num_inj (words_set (wd_words _ _) (by omega) hr.2) (wd_words _ _) (by rw [List.length_set, wd_len, wd_len]) ?_
  rw [num_set _ (by rw [wd_len]; exact hq), num_wd_of hf.2 (by omega), num_wd_of (by omega) (by omega), en]
  have e3 : wp (at_ / 8) * 2 ^ (8 * (at_ % 8)) = tp (8 * at_) := by
    rw [← tp_wp, show (2 : Int) ^ (8 * (at_ % 8)) = tp (8 * (at_ % 8)) from rfl, ← tp_add]; congr 1; omega
  rw [← e3]
  grind

end Go.Proofs.YtpnpiiocpjbffaaDoor.Limb

