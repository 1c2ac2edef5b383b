/-
  Own text. The contracts of layer 3's reference: At, Add, Sub.
-/
import Derived.Test.YtmohopjblhgdiaaDoorMReg
namespace Go.Proofs.YtmohopjblhgdiaaDoor.Limb
open Go Go.RowKit Go.Proofs.YtmohopjblhgdiaaDoor.Reg Go.Proofs.YtmohopjblhgdiaaDoor.Base

/-- The sum's words, and what is carried. -/
def addL (a b : List Int) : List Int := wd (max a.length b.length) (num a + num b)
def addC (a b : List Int) : Int := (num a + num b) / wp (max a.length b.length)
def subL (a b : List Int) : List Int := wd (max a.length b.length) (num a - num b)
def subC (a b : List Int) : Int := if num a < num b then 1 else 0

end Go.Proofs.YtmohopjblhgdiaaDoor.Limb

/-
  Own text. The contracts of layer 3's reference: Cmp, Same, twice.
-/
namespace Go.Proofs.YtmohopjblhgdiaaDoor.Limb
open Go Go.RowKit Go.Proofs.YtmohopjblhgdiaaDoor.Reg Go.Proofs.YtmohopjblhgdiaaDoor.Base

/-- The order of two numbers. -/
def cmpL (a b : List Int) : Int := if num a < num b then -1 else if num a = num b then 0 else 1
theorem num_low {l : List Int} {k : Nat} (h : l.length ≤ k) : num l = low l k := (low_num h).symm
theorem low_high {a b : List Int} {k : Nat} (h : ∀ j, k ≤ j → nth a j = nth b j) : ∀ d, low a (k + d) - low b (k + d) = low a k - low b k
  | 0 => rfl
  | d + 1 => by
    rw [← Nat.add_assoc, low_succ, low_succ, h (k + d) (by omega)]
    have := low_high h d
    omega
theorem num_high {a b : List Int} {k : Nat} (h : ∀ j, k ≤ j → nth a j = nth b j) : num a - num b = low a k - low b k := by
  rw [num_low (show a.length ≤ k + (a.length + b.length) by omega), num_low (show b.length ≤ k + (a.length + b.length) by omega)]
  exact low_high h _
theorem low_less {a b : List Int} (ha : Words a) (hb : Words b) {k : Nat} (h : nth a k < nth b k) : low a (k + 1) < low b (k + 1) := by
  rw [low_succ, low_succ]
  have h1 := low_bounds ha k
  have h2 := low_bounds hb k
  have h3 : wp k * (nth a k + 1) ≤ wp k * nth b k := Int.mul_le_mul_of_nonneg_left (by omega) (Int.le_of_lt (wp_pos k))
  rw [Int.mul_add, Int.mul_one] at h3
  omega
theorem cmp_lt {a b : List Int} (ha : Words a) (hb : Words b) {k : Nat} (he : ∀ j, k + 1 ≤ j → nth a j = nth b j) (h : nth a k < nth b k) : cmpL a b = -1 := by
  have h1 := num_high he
  have h2 := low_less ha hb h
  unfold cmpL
  rw [if_pos (by omega)]
theorem cmp_gt {a b : List Int} (ha : Words a) (hb : Words b) {k : Nat} (he : ∀ j, k + 1 ≤ j → nth a j = nth b j) (h : nth b k < nth a k) : cmpL a b = 1 := by
  have h1 := num_high he
  have h2 := low_less hb ha h
  unfold cmpL
  rw [if_neg (by omega), if_neg (by omega)]
theorem cmp_eq {a b : List Int} (he : ∀ j, 0 ≤ j → nth a j = nth b j) : cmpL a b = 0 := by
  have h1 := num_high he
  rw [low_zero, low_zero] at h1
  unfold cmpL
  rw [if_neg (by omega), if_pos (by omega)]

end Go.Proofs.YtmohopjblhgdiaaDoor.Limb

/-
  Own text. The contracts of layer 3's reference: Mul, Mod.
-/
namespace Go.Proofs.YtmohopjblhgdiaaDoor.Limb
open Go Go.RowKit Go.Proofs.YtmohopjblhgdiaaDoor.Reg Go.Proofs.YtmohopjblhgdiaaDoor.Base

/-- The k-th power of 2. -/
def tp (k : Nat) : Int := 2 ^ k
theorem tp_pos (k : Nat) : 0 < tp k := Int.pow_pos (by omega)
theorem tp_add (a b : Nat) : tp (a + b) = tp a * tp b := Int.pow_add _ _ _
theorem tp_wp (k : Nat) : tp (64 * k) = wp k := by
  induction k with
  | zero => rfl
  | succ k ih => rw [Nat.mul_succ, tp_add, ih, wp_succ]; rfl
/-- A number's i-th bit, and the number above it. -/
def bitL (l : List Int) (i : Nat) : Int := nth l (i / 64) / tp (i % 64) % 2
end Go.Proofs.YtmohopjblhgdiaaDoor.Limb

/-
  Own text. The contract of layer 3's reference: Mod.
-/
namespace Go.Proofs.YtmohopjblhgdiaaDoor.Limb
open Go Go.RowKit Go.Proofs.YtmohopjblhgdiaaDoor.Reg Go.Proofs.YtmohopjblhgdiaaDoor.Base

end Go.Proofs.YtmohopjblhgdiaaDoor.Limb

/-
  Own text. The contracts of layer 3's reference: Octets, Words.
-/
namespace Go.Proofs.YtmohopjblhgdiaaDoor.Limb
open Go Go.RowKit Go.Proofs.YtmohopjblhgdiaaDoor.Reg Go.Proofs.YtmohopjblhgdiaaDoor.Base

/-- A number's n lowest bytes, the highest first. -/
def octL (a : List Int) (n : Nat) : List Int := tab n fun i => num a / tp (8 * (n - 1 - i)) % 256
/-- The number of the first k bytes, the highest first. -/
def bn (b : List Int) : Nat → Int
  | 0 => 0
  | k + 1 => bn b k * 256 + nth b k
def bnum (b : List Int) : Int := bn b b.length
/-- The number of bytes, in as few words as hold them. -/
def wordsL (b : List Int) : List Int := wd ((b.length + 7) / 8) (bnum b)

end Go.Proofs.YtmohopjblhgdiaaDoor.Limb

