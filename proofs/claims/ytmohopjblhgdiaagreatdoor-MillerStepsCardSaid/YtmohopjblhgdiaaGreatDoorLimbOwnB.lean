/-
  Own text. The contracts of package limb: Cmp.
-/
import Derived.Test.YtmohopjblhgdiaaGreatDoorLimbOwnA
namespace Go.Proofs.YtmohopjblhgdiaaGreatDoor.Limb
open Go Go.RowKit Go.Proofs.YtmohopjblhgdiaaGreatDoor.Reg Go.Proofs.YtmohopjblhgdiaaGreatDoor.Base

theorem isNaN_c (x : Int) (w : World) : Calls Tryz.prog 119 #[.int .u64 x] w fun e w' => e = .returned (.bool false) ∧ w = w' := by
  have h : (x != x) = false := bne_self_eq_false x
  go_enter Tryz.func119, Tryz.ntmps119
  go_wp2
  go_ret
  exact ⟨rfl, rfl⟩

/-- The order of two words. -/
def ordL (x y : Int) : Int := if x < y then -1 else if x = y then 0 else 1
set_option maxRecDepth 100000 in
set_option maxHeartbeats 1000000 in
theorem compare_c (x y : Int) (w : World) : Calls Tryz.prog 116 #[.int .u64 x, .int .u64 y] w fun e w' => e = .returned (.int .i64 (ordL x y)) ∧ w = w' := by
  rcases Int.lt_trichotomy x y with h1 | h1 | h1
  · rw [show ordL x y = -1 by unfold ordL; rw [if_pos h1]]
    go_enter Tryz.func116, Tryz.ntmps116
    go_wp2_with (first
      | (have q1 := f1; go_at_call 119; refine (isNaN_c y _).mono ?_; rintro e w' ⟨rfl, rfl⟩)
      | (go_at_call 119; refine (isNaN_c x _).mono ?_; rintro e w' ⟨rfl, rfl⟩; have f1 := True.intro))
    go_ret
    exact ⟨rfl, rfl⟩
  · subst h1
    rw [show ordL x x = 0 by unfold ordL; rw [if_neg (by omega), if_pos rfl]]
    have h2 : ¬ x < x := by omega
    go_enter Tryz.func116, Tryz.ntmps116
    go_wp2_with (go_at_call 119; refine (isNaN_c x _).mono ?_; rintro e w' ⟨rfl, rfl⟩)
    go_ret
    exact ⟨rfl, rfl⟩
  · rw [show ordL x y = 1 by unfold ordL; rw [if_neg (by omega), if_neg (by omega)]]
    have h2 : ¬ x < y := by omega
    go_enter Tryz.func116, Tryz.ntmps116
    go_wp2_with (first
      | (have q1 := f1; go_at_call 119; refine (isNaN_c y _).mono ?_; rintro e w' ⟨rfl, rfl⟩)
      | (go_at_call 119; refine (isNaN_c x _).mono ?_; rintro e w' ⟨rfl, rfl⟩; have f1 := True.intro))
    go_ret
    exact ⟨rfl, rfl⟩

set_option maxRecDepth 100000 in
set_option maxHeartbeats 2000000 in
theorem cmp_lt' (A : Option Addr) (n c : Nat) (a : List Int) (A' : Option Addr) (n' c' : Nat) (b : List Int) (B : Nat) (w : World) (hr : Rd w B A n .u64 a) (hwa : Words a) (hr' : Rd w B A' n' .u64 b) (hwb : Words b) (hn : n ≤ 10000) (hn' : n' ≤ 10000) (hcmp : n < n') :
    Calls Tryz.prog 112 #[.slice A n c, .slice A' n' c'] w fun e w' => e = .returned (.int .i64 (cmpL a b)) ∧ w = w' := by
  have WA : Keep _ := ⟨hwa⟩
  have WB : Keep _ := ⟨hwb⟩
  have HH : Keep (∀ j, n' ≤ j → nth a j = nth b j) := ⟨fun j hj => by rw [nth_ge (by have := hr.len; omega), nth_ge (by have := hr'.len; omega)]⟩
  clear hwa hwb
  go_enter Tryz.func112, Tryz.ntmps112
  go_wp2
  go_loopw [5] (fun vi wr => ∃ k : Nat, k ≤ n' ∧ vi = .int .i64 ((k : Int) - 1) ∧ Keep (∀ j, k ≤ j → nth a j = nth b j) ∧ w = wr) (fun vi _ => (intOf vi + 1).toNat)
  case atStart => exact ⟨n', Nat.le_refl _, rfl, HH, rfl⟩
  case round =>
    obtain ⟨k, hk, rfl, hE, rfl⟩ := hrel
    rcases k with _ | i
    · have hc := cmp_eq hE.out
      have HC : Keep _ := ⟨hc⟩
      clear hc
      go_wp2
      go_ret
      exact ⟨by rw [HC.out]; rfl, rfl⟩
    · have e1 : ((i + 1 : Nat) : Int) - 1 = (i : Int) := by omega
      rw [e1]
      clear e1
      obtain ⟨x, hx⟩ : ∃ x, nth a i = x := ⟨_, rfl⟩
      obtain ⟨y, hy⟩ : ∃ y, nth b i = y := ⟨_, rfl⟩
      have HX : Keep _ := ⟨hx⟩
      have HY : Keep _ := ⟨hy⟩
      clear hx hy
      rcases Int.lt_trichotomy x y with h1 | h1 | h1
      · have HC : Keep (cmpL a b = -1) := ⟨cmp_lt WA.out WB.out hE.out (by rw [HX.out, HY.out]; exact h1)⟩
        have HO : Keep (ordL x y = -1) := ⟨by unfold ordL; rw [if_pos h1]⟩
        clear h1
        go_wp2_with (first
          | (go_at_call 116; refine (compare_c x y _).mono ?_; rintro e w' ⟨rfl, rfl⟩; rw [HO.out])
          | (have q1 := f1; go_at_call 117; refine (wordAt_c A' n' c' b B i _ hr').mono ?_; rintro e w' ⟨rfl, rfl⟩; rw [HY.out]; clear q1 f1)
          | (go_at_call 117; refine (wordAt_c A n c a B i _ hr).mono ?_; rintro e w' ⟨rfl, rfl⟩; rw [HX.out]; have f1 := True.intro))
        go_ret
        exact ⟨by rw [HC.out]; rfl, rfl⟩
      · subst h1
        have hE' : Keep (∀ j, i ≤ j → nth a j = nth b j) := ⟨fun j hj => by
          rcases Nat.lt_or_ge i j with h | h
          · exact hE.out j h
          · obtain rfl : j = i := by omega
            rw [HX.out, HY.out]⟩
        have HO : Keep (ordL x x = 0) := ⟨by unfold ordL; rw [if_neg (by omega), if_pos rfl]⟩
        go_wp2_with (first
          | (go_at_call 116; refine (compare_c x x _).mono ?_; rintro e w' ⟨rfl, rfl⟩; rw [HO.out])
          | (have q1 := f1; go_at_call 117; refine (wordAt_c A' n' c' b B i _ hr').mono ?_; rintro e w' ⟨rfl, rfl⟩; rw [HY.out]; clear q1 f1)
          | (go_at_call 117; refine (wordAt_c A n c a B i _ hr).mono ?_; rintro e w' ⟨rfl, rfl⟩; rw [HX.out]; have f1 := True.intro))
        first
          | exact ⟨⟨i, by omega, rfl, hE', by trivial⟩, by simp [intOf]⟩
          | (go_roundw
             case rel => exact ⟨i, by omega, rfl, hE', by trivial⟩
             case measure => simp [intOf])
      · have HC : Keep (cmpL a b = 1) := ⟨cmp_gt WA.out WB.out hE.out (by rw [HX.out, HY.out]; exact h1)⟩
        have HO : Keep (ordL x y = 1) := ⟨by unfold ordL; rw [if_neg (by omega), if_neg (by omega)]⟩
        clear h1
        go_wp2_with (first
          | (go_at_call 116; refine (compare_c x y _).mono ?_; rintro e w' ⟨rfl, rfl⟩; rw [HO.out])
          | (have q1 := f1; go_at_call 117; refine (wordAt_c A' n' c' b B i _ hr').mono ?_; rintro e w' ⟨rfl, rfl⟩; rw [HY.out]; clear q1 f1)
          | (go_at_call 117; refine (wordAt_c A n c a B i _ hr).mono ?_; rintro e w' ⟨rfl, rfl⟩; rw [HX.out]; have f1 := True.intro))
        go_ret
        exact ⟨by rw [HC.out]; rfl, rfl⟩

set_option maxRecDepth 100000 in
set_option maxHeartbeats 2000000 in
theorem cmp_ge' (A : Option Addr) (n c : Nat) (a : List Int) (A' : Option Addr) (n' c' : Nat) (b : List Int) (B : Nat) (w : World) (hr : Rd w B A n .u64 a) (hwa : Words a) (hr' : Rd w B A' n' .u64 b) (hwb : Words b) (hn : n ≤ 10000) (_hn' : n' ≤ 10000) (hcmp : ¬ n < n') :
    Calls Tryz.prog 112 #[.slice A n c, .slice A' n' c'] w fun e w' => e = .returned (.int .i64 (cmpL a b)) ∧ w = w' := by
  have WA : Keep _ := ⟨hwa⟩
  have WB : Keep _ := ⟨hwb⟩
  have HH : Keep (∀ j, n ≤ j → nth a j = nth b j) := ⟨fun j hj => by rw [nth_ge (by have := hr.len; omega), nth_ge (by have := hr'.len; omega)]⟩
  clear hwa hwb
  go_enter Tryz.func112, Tryz.ntmps112
  go_wp2
  go_loopw [5] (fun vi wr => ∃ k : Nat, k ≤ n ∧ vi = .int .i64 ((k : Int) - 1) ∧ Keep (∀ j, k ≤ j → nth a j = nth b j) ∧ w = wr) (fun vi _ => (intOf vi + 1).toNat)
  case atStart => exact ⟨n, Nat.le_refl _, rfl, HH, rfl⟩
  case round =>
    obtain ⟨k, hk, rfl, hE, rfl⟩ := hrel
    rcases k with _ | i
    · have hc := cmp_eq hE.out
      have HC : Keep _ := ⟨hc⟩
      clear hc
      go_wp2
      go_ret
      exact ⟨by rw [HC.out]; rfl, rfl⟩
    · have e1 : ((i + 1 : Nat) : Int) - 1 = (i : Int) := by omega
      rw [e1]
      clear e1
      obtain ⟨x, hx⟩ : ∃ x, nth a i = x := ⟨_, rfl⟩
      obtain ⟨y, hy⟩ : ∃ y, nth b i = y := ⟨_, rfl⟩
      have HX : Keep _ := ⟨hx⟩
      have HY : Keep _ := ⟨hy⟩
      clear hx hy
      rcases Int.lt_trichotomy x y with h1 | h1 | h1
      · have HC : Keep (cmpL a b = -1) := ⟨cmp_lt WA.out WB.out hE.out (by rw [HX.out, HY.out]; exact h1)⟩
        have HO : Keep (ordL x y = -1) := ⟨by unfold ordL; rw [if_pos h1]⟩
        clear h1
        go_wp2_with (first
          | (go_at_call 116; refine (compare_c x y _).mono ?_; rintro e w' ⟨rfl, rfl⟩; rw [HO.out])
          | (have q1 := f1; go_at_call 117; refine (wordAt_c A' n' c' b B i _ hr').mono ?_; rintro e w' ⟨rfl, rfl⟩; rw [HY.out]; clear q1 f1)
          | (go_at_call 117; refine (wordAt_c A n c a B i _ hr).mono ?_; rintro e w' ⟨rfl, rfl⟩; rw [HX.out]; have f1 := True.intro))
        go_ret
        exact ⟨by rw [HC.out]; rfl, rfl⟩
      · subst h1
        have hE' : Keep (∀ j, i ≤ j → nth a j = nth b j) := ⟨fun j hj => by
          rcases Nat.lt_or_ge i j with h | h
          · exact hE.out j h
          · obtain rfl : j = i := by omega
            rw [HX.out, HY.out]⟩
        have HO : Keep (ordL x x = 0) := ⟨by unfold ordL; rw [if_neg (by omega), if_pos rfl]⟩
        go_wp2_with (first
          | (go_at_call 116; refine (compare_c x x _).mono ?_; rintro e w' ⟨rfl, rfl⟩; rw [HO.out])
          | (have q1 := f1; go_at_call 117; refine (wordAt_c A' n' c' b B i _ hr').mono ?_; rintro e w' ⟨rfl, rfl⟩; rw [HY.out]; clear q1 f1)
          | (go_at_call 117; refine (wordAt_c A n c a B i _ hr).mono ?_; rintro e w' ⟨rfl, rfl⟩; rw [HX.out]; have f1 := True.intro))
        first
          | exact ⟨⟨i, by omega, rfl, hE', by trivial⟩, by simp [intOf]⟩
          | (go_roundw
             case rel => exact ⟨i, by omega, rfl, hE', by trivial⟩
             case measure => simp [intOf])
      · have HC : Keep (cmpL a b = 1) := ⟨cmp_gt WA.out WB.out hE.out (by rw [HX.out, HY.out]; exact h1)⟩
        have HO : Keep (ordL x y = 1) := ⟨by unfold ordL; rw [if_neg (by omega), if_neg (by omega)]⟩
        clear h1
        go_wp2_with (first
          | (go_at_call 116; refine (compare_c x y _).mono ?_; rintro e w' ⟨rfl, rfl⟩; rw [HO.out])
          | (have q1 := f1; go_at_call 117; refine (wordAt_c A' n' c' b B i _ hr').mono ?_; rintro e w' ⟨rfl, rfl⟩; rw [HY.out]; clear q1 f1)
          | (go_at_call 117; refine (wordAt_c A n c a B i _ hr).mono ?_; rintro e w' ⟨rfl, rfl⟩; rw [HX.out]; have f1 := True.intro))
        go_ret
        exact ⟨by rw [HC.out]; rfl, rfl⟩

theorem cmp_c (A : Option Addr) (n c : Nat) (a : List Int) (A' : Option Addr) (n' c' : Nat) (b : List Int) (B : Nat) (w : World) (hr : Rd w B A n .u64 a) (hwa : Words a) (hr' : Rd w B A' n' .u64 b) (hwb : Words b) (_hB : B ≤ w.heap.size) (hn : n ≤ 10000) (hn' : n' ≤ 10000) :
    Calls Tryz.prog 112 #[.slice A n c, .slice A' n' c'] w fun e w' => e = .returned (.int .i64 (cmpL a b)) ∧ Below w.heap.size w w' := by
  have h : Calls Tryz.prog 112 #[.slice A n c, .slice A' n' c'] w fun e w' => e = .returned (.int .i64 (cmpL a b)) ∧ w = w' := by
    by_cases h : n < n'
    · exact cmp_lt' A n c a A' n' c' b B w hr hwa hr' hwb hn hn' h
    · exact cmp_ge' A n c a A' n' c' b B w hr hwa hr' hwb hn hn' h
  refine h.mono ?_
  rintro e w' ⟨rfl, rfl⟩
  exact ⟨rfl, Below.refl _ _⟩
end Go.Proofs.YtmohopjblhgdiaaGreatDoor.Limb
