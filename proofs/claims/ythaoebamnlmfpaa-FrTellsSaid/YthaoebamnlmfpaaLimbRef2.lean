/-
  Own text. The contracts of layer 3's reference: Cmp, Same, twice.
-/
import Derived.Test.YthaoebamnlmfpaaLimbRef
namespace Go.Proofs.Ythaoebamnlmfpaa.Limb
open Go Go.RowKit Go.Proofs.Ythaoebamnlmfpaa.Reg Go.Proofs.Ythaoebamnlmfpaa.Base

/-- The order of two numbers. -/
def cmpL (a b : List Int) : Int := if num a < num b then -1 else if num a = num b then 0 else 1
theorem num_low {l : List Int} {k : Nat} (h : l.length ≤ k) : num l = low l k := (low_num h).symm
theorem low_high {a b : List Int} {k : Nat} (h : ∀ j, k ≤ j → nth a j = nth b j) : ∀ d, low a (k + d) - low b (k + d) = low a k - low b k
  | 0 => rfl
  | d + 1 => by
    rw [← Nat.add_assoc, low_succ, low_succ, h (k + d) (by omega)]
    have := low_high h d
    omega
theorem num_high {a b : List Int} {k : Nat} (h : ∀ j, k ≤ j → nth a j = nth b j) : num a - num b = low a k - low b k := by
  rw [num_low (show a.length ≤ k + (a.length + b.length) by omega), num_low (show b.length ≤ k + (a.length + b.length) by omega)]
  exact low_high h _
theorem low_less {a b : List Int} (ha : Words a) (hb : Words b) {k : Nat} (h : nth a k < nth b k) : low a (k + 1) < low b (k + 1) := by
  rw [low_succ, low_succ]
  have h1 := low_bounds ha k
  have h2 := low_bounds hb k
  have h3 : wp k * (nth a k + 1) ≤ wp k * nth b k := Int.mul_le_mul_of_nonneg_left (by omega) (Int.le_of_lt (wp_pos k))
  rw [Int.mul_add, Int.mul_one] at h3
  omega
theorem cmp_lt {a b : List Int} (ha : Words a) (hb : Words b) {k : Nat} (he : ∀ j, k + 1 ≤ j → nth a j = nth b j) (h : nth a k < nth b k) : cmpL a b = -1 := by
  have h1 := num_high he
  have h2 := low_less ha hb h
  unfold cmpL
  rw [if_pos (by omega)]
theorem cmp_gt {a b : List Int} (ha : Words a) (hb : Words b) {k : Nat} (he : ∀ j, k + 1 ≤ j → nth a j = nth b j) (h : nth b k < nth a k) : cmpL a b = 1 := by
  have h1 := num_high he
  have h2 := low_less hb ha h
  unfold cmpL
  rw [if_neg (by omega), if_neg (by omega)]
theorem cmp_eq {a b : List Int} (he : ∀ j, 0 ≤ j → nth a j = nth b j) : cmpL a b = 0 := by
  have h1 := num_high he
  rw [low_zero, low_zero] at h1
  unfold cmpL
  rw [if_neg (by omega), if_pos (by omega)]

set_option maxRecDepth 100000 in
set_option maxHeartbeats 2000000 in
theorem refCmp_c (A : Option Addr) (n c : Nat) (a : List Int) (A' : Option Addr) (n' c' : Nat) (b : List Int) (B : Nat) (w : World) (hr : Rd w B A n .u64 a) (hwa : Words a) (hr' : Rd w B A' n' .u64 b) (hwb : Words b) (hn : n ≤ 100000) (hn' : n' ≤ 100000) :
    Calls Try.prog 45 #[.slice A n c, .slice A' n' c'] w fun e w' => e = .returned (.int .i64 (cmpL a b)) ∧ w = w' := by
  have LN : Keep _ := ⟨hr.len⟩
  have LN' : Keep _ := ⟨hr'.len⟩
  have WA : Keep _ := ⟨hwa⟩
  have WB : Keep _ := ⟨hwb⟩
  obtain ⟨M, hM⟩ : ∃ M, max n n' = M := ⟨_, rfl⟩
  have HM : Keep _ := ⟨hM⟩
  have hMb : M ≤ 100000 := by omega
  have HH : Keep (∀ j, M ≤ j → nth a j = nth b j) := ⟨fun j hj => by rw [nth_ge (by have := hr.len; omega), nth_ge (by have := hr'.len; omega)]⟩
  clear hwa hwb hM
  go_enter Try.func45, Try.ntmps45
  go_wp2_with (go_at_call 60; refine (more_c n n' _).mono ?_; rintro e w' ⟨rfl, rfl⟩; rw [HM.out])
  go_loopw [5] (fun vi wr => ∃ k : Nat, k ≤ M ∧ vi = .int .i64 ((k : Int) - 1) ∧ Keep (∀ j, k ≤ j → nth a j = nth b j) ∧ w = wr) (fun vi _ => (intOf vi + 1).toNat)
  case atStart => exact ⟨M, Nat.le_refl _, rfl, HH, rfl⟩
  case round =>
    obtain ⟨k, hk, rfl, hE, rfl⟩ := hrel
    rcases k with _ | i
    · have hc := cmp_eq hE.out
      have HC : Keep _ := ⟨hc⟩
      clear hc
      go_wp2
      go_ret
      exact ⟨by rw [HC.out]; rfl, rfl⟩
    · have e1 : ((i + 1 : Nat) : Int) - 1 = (i : Int) := by omega
      rw [e1]
      clear e1
      obtain ⟨x, hx⟩ : ∃ x, nth a i = x := ⟨_, rfl⟩
      obtain ⟨y, hy⟩ : ∃ y, nth b i = y := ⟨_, rfl⟩
      have HX : Keep _ := ⟨hx⟩
      have HY : Keep _ := ⟨hy⟩
      clear hx hy
      rcases Int.lt_trichotomy x y with h1 | h1 | h1
      · have HC : Keep (cmpL a b = -1) := ⟨cmp_lt WA.out WB.out hE.out (by rw [HX.out, HY.out]; exact h1)⟩
        go_wp2_with (first
          | (have q1 := f1; go_at_call 52; refine (at_c A' n' c' b B i _ hr').mono ?_; rintro e w' ⟨rfl, rfl⟩; rw [HY.out]; clear q1 f1)
          | (go_at_call 52; refine (at_c A n c a B i _ hr).mono ?_; rintro e w' ⟨rfl, rfl⟩; rw [HX.out]; have f1 := True.intro))
        go_ret
        exact ⟨by rw [HC.out]; rfl, rfl⟩
      · subst h1
        have hE' : Keep (∀ j, i ≤ j → nth a j = nth b j) := ⟨fun j hj => by
          rcases Nat.lt_or_ge i j with h | h
          · exact hE.out j h
          · obtain rfl : j = i := by omega
            rw [HX.out, HY.out]⟩
        go_wp2_with (first
          | (have q1 := f3; go_at_call 52; refine (at_c A' n' c' b B i _ hr').mono ?_; rintro e w' ⟨rfl, rfl⟩; rw [HY.out]; clear q1 f3)
          | (have q1 := f2; go_at_call 52; refine (at_c A n c a B i _ hr).mono ?_; rintro e w' ⟨rfl, rfl⟩; rw [HX.out]; clear q1 f2; have f3 := True.intro)
          | (have q1 := f1; go_at_call 52; refine (at_c A' n' c' b B i _ hr').mono ?_; rintro e w' ⟨rfl, rfl⟩; rw [HY.out]; clear q1 f1; have f2 := True.intro)
          | (go_at_call 52; refine (at_c A n c a B i _ hr).mono ?_; rintro e w' ⟨rfl, rfl⟩; rw [HX.out]; have f1 := True.intro))
        go_roundw
        case rel => exact ⟨i, by omega, rfl, hE', trivial⟩
        case measure => simp [intOf]
      · have HC : Keep (cmpL a b = 1) := ⟨cmp_gt WA.out WB.out hE.out (by rw [HX.out, HY.out]; exact h1)⟩
        go_wp2_with (first
          | (have q1 := f3; go_at_call 52; refine (at_c A' n' c' b B i _ hr').mono ?_; rintro e w' ⟨rfl, rfl⟩; rw [HY.out]; clear q1 f3)
          | (have q1 := f2; go_at_call 52; refine (at_c A n c a B i _ hr).mono ?_; rintro e w' ⟨rfl, rfl⟩; rw [HX.out]; clear q1 f2; have f3 := True.intro)
          | (have q1 := f1; go_at_call 52; refine (at_c A' n' c' b B i _ hr').mono ?_; rintro e w' ⟨rfl, rfl⟩; rw [HY.out]; clear q1 f1; have f2 := True.intro)
          | (go_at_call 52; refine (at_c A n c a B i _ hr).mono ?_; rintro e w' ⟨rfl, rfl⟩; rw [HX.out]; have f1 := True.intro))
        go_ret
        exact ⟨by rw [HC.out]; rfl, rfl⟩

set_option maxRecDepth 100000 in
set_option maxHeartbeats 1000000 in
theorem refTwice_c (A : Option Addr) (n c : Nat) (a : List Int) (B : Nat) (w : World) (hr : Rd w B A n .u64 a) (hwa : Words a) (hB : B ≤ w.heap.size) (hn : n ≤ 100000) :
    Calls Try.prog 71 #[.slice A n c] w fun e w' => ∃ A'' c'', e = .returned (.slice A'' n c'') ∧ Own w' w.heap.size 23 .u64 A'' n c'' (wd n (2 * num a)) ∧ Below w.heap.size w w' := by
  have WA : Keep _ := ⟨hwa⟩
  have HA : Keep (addL a a = wd n (2 * num a)) := ⟨by rw [addL, Nat.max_self, hr.len, Int.two_mul]⟩
  clear hwa
  go_enter Try.func71, Try.ntmps71
  go_wp2_with (go_at_call 51; refine (refAdd_c A n c a A n c a B _ hr WA.out hr WA.out hB hn hn).mono ?_; rintro e w1 ⟨A1, c1, rfl, ho1, hb1⟩; rw [HA.out, Nat.max_self] at ho1; rw [Nat.max_self])
  go_ret
  exact ⟨A1, c1, rfl, ho1, hb1⟩
end Go.Proofs.Ythaoebamnlmfpaa.Limb
