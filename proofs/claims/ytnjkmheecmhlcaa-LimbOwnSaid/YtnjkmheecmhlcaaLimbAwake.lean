/-
  Own text. The head of layer 3's statements: calls with known answers; few.
-/
import Derived.Test.YtnjkmheecmhlcaaLimbOwn
namespace Go.Proofs.Ytnjkmheecmhlcaa.Limb
open Go Go.RowKit Go.Proofs.Ytnjkmheecmhlcaa.Reg Go.Proofs.Ytnjkmheecmhlcaa.Base

theorem aw_add : addL [18446744073709551615] [1] = [0] ∧ addC [18446744073709551615] [1] = 1 := by decide +kernel
theorem aw_mod : wd 1 (num [0, 1] % num [10]) = [6] ∧ num [10] ≠ 0 ∧ num [0] = 0 := by decide +kernel
theorem aw_mul : wd 2 (num [9223372036854775808] * num [2]) = [0, 1] := by decide +kernel
theorem aw_oct : octL [258] 3 = [0, 1, 2] := by decide +kernel
theorem aw_words : wordsL [1, 0, 0, 0, 0, 0, 0, 0, 2] = [2, 1] := by decide +kernel
theorem aw_cmp : cmpL [1, 0] [1] = 0 := by decide +kernel

set_option maxRecDepth 100000 in
set_option maxHeartbeats 4000000 in
theorem awake_c (w : World) : Calls Try.prog 10 #[] w fun e w' => e = .returned (.bool true) ∧ Below w.heap.size w w' := by
  have W1 : Keep (Words [18446744073709551615]) := ⟨words_one (by omega) (by omega)⟩
  have W2 : Keep (Words [1]) := ⟨words_one (by omega) (by omega)⟩
  have W3 : Keep (Words [0, 1]) := ⟨words_append (l := [0]) (words_one (by omega) (by omega)) (words_one (by omega) (by omega))⟩
  have W4 : Keep (Words [10]) := ⟨words_one (by omega) (by omega)⟩
  have W5 : Keep (Words [5]) := ⟨words_one (by omega) (by omega)⟩
  have W6 : Keep (Words [0]) := ⟨words_one (by omega) (by omega)⟩
  have W7 : Keep (Words [9223372036854775808]) := ⟨words_one (by omega) (by omega)⟩
  have W8 : Keep (Words [2]) := ⟨words_one (by omega) (by omega)⟩
  have W9 : Keep (Words [258]) := ⟨words_one (by omega) (by omega)⟩
  have W10 : Keep (Words [1, 0]) := ⟨words_append (l := [1]) (words_one (by omega) (by omega)) (words_one (by omega) (by omega))⟩
  have B9 : Keep (Bytes [1, 0, 0, 0, 0, 0, 0, 0, 2]) := ⟨bytes_of _ (by decide)⟩
  have two : ∀ (w : World) (t t' : TypeId) (k k' : IntKind) (xs ys : List Int), Rd ((w.alloc (.cells (vals k xs) t)).alloc (.cells (vals k' ys) t')) (w.heap.size + 2) (some ⟨w.heap.size, 0, none⟩) xs.length k xs ∧ Rd ((w.alloc (.cells (vals k xs) t)).alloc (.cells (vals k' ys) t')) (w.heap.size + 2) (some ⟨w.heap.size + 1, 0, none⟩) ys.length k' ys ∧ w.heap.size + 2 ≤ ((w.alloc (.cells (vals k xs) t)).alloc (.cells (vals k' ys) t')).heap.size ∧ Below w.heap.size w ((w.alloc (.cells (vals k xs) t)).alloc (.cells (vals k' ys) t')) := fun w t t' k k' xs ys =>
    ⟨Rd.of_has ((Has.new w t (vals k xs)).alloc _) (by omega) (by rw [List.drop_zero, take_all rfl]) (by omega), Rd.of_has (Has.new' _ (by simp) t' (vals k' ys)) (by omega) (by rw [List.drop_zero, take_all rfl]) (by omega), by simp, ((Below.refl _ _).alloc (Nat.le_refl _) _).alloc (by simp) _⟩
  have TWO : Keep _ := ⟨two⟩
  have one : ∀ (w : World) (t : TypeId) (k : IntKind) (xs : List Int), Rd (w.alloc (.cells (vals k xs) t)) (w.heap.size + 1) (some ⟨w.heap.size, 0, none⟩) xs.length k xs ∧ w.heap.size + 1 ≤ (w.alloc (.cells (vals k xs) t)).heap.size ∧ Below w.heap.size w (w.alloc (.cells (vals k xs) t)) := fun w t k xs =>
    ⟨Rd.of_has (Has.new w t (vals k xs)) (by omega) (by rw [List.drop_zero, take_all rfl]) (by omega), by simp, (Below.refl _ _).alloc (Nat.le_refl _) _⟩
  have ONE : Keep _ := ⟨one⟩
  clear one
  clear two
  go_enter Try.func10, Try.ntmps10
  go_wp2_with (first
    | (have q1 := f6; go_at_call 26
       obtain ⟨h1, h2, h3⟩ := ONE.out w6 5 .u8 [1, 0, 0, 0, 0, 0, 0, 0, 2]
       refine (words_c (some ⟨w6.heap.size, 0, none⟩) 9 9 [1, 0, 0, 0, 0, 0, 0, 0, 2] _ _ h1 B9.out h2 (by omega)).mono ?_
       rintro e w7 ⟨A7, c7, rfl, hx7, hb7⟩
       rw [aw_words] at hx7
       have hb7' := hb6'.trans ((h3.trans (hb7.mono h3.size)).mono hb6'.size)
       have k7 := h3.trans (hb7.mono h3.size)
       have m6 := k6.trans (k7.mono k6.size)
       have m5 := k5.trans (m6.mono k5.size)
       have m4 := k4.trans (m5.mono k4.size)
       have m3 := k3.trans (m4.mono k3.size)
       obtain ⟨b2, o2, rfl, _, _, hc2⟩ := hx2.cell (by omega)
       obtain ⟨b3, o3, rfl, _, _, hc3⟩ := hx3.cell (by omega)
       obtain ⟨b5, o5, rfl, _, _, hc5⟩ := hx5.cell (by omega)
       obtain ⟨b6, o6, rfl, _, _, hc6⟩ := hx6.cell (by omega)
       obtain ⟨b7, o7, rfl, _, _, hc7⟩ := hx7.cell (by omega)
       have e2 : w7.cell? ⟨b2, o2, none⟩ = some (.int .u64 0) := hc2 w7 m3 0 (by omega)
       have e3 : w7.cell? ⟨b3, o3, none⟩ = some (.int .u64 6) := hc3 w7 m4 0 (by omega)
       have e5 : w7.cell? ⟨b5, o5 + 1, none⟩ = some (.int .u64 1) := hc5 w7 m6 1 (by omega)
       have e6 : w7.cell? ⟨b6, o6 + 1, none⟩ = some (.int .u8 1) := hc6 w7 k7 1 (by omega)
       have e7 : w7.cell? ⟨b7, o7, none⟩ = some (.int .u64 2) := hc7 w7 (Below.refl _ _) 0 (by omega)
       have e8 : w7.cell? ⟨b7, o7 + 1, none⟩ = some (.int .u64 1) := hc7 w7 (Below.refl _ _) 1 (by omega)
       clear h1 h2 h3 hb7 q1 f6 m3 m4 m5 m6 k3 k4 k5 k6 k7 hc2 hc3 hc5 hc6 hc7 hx2 hx3 hx5 hx6 hx7 hb2' hb3' hb4' hb5' hb6'
       have f7 := True.intro)
    | (have q1 := f7; go_at_call 21
       obtain ⟨h1, h2, h3, h4⟩ := TWO.out w7 25 25 .u64 .u64 [1, 0] [1]
       refine (cmp_c (some ⟨w7.heap.size, 0, none⟩) 2 2 [1, 0] (some ⟨w7.heap.size + 1, 0, none⟩) 1 1 [1] _ _ h1 W10.out h2 W2.out h3 (by omega) (by omega)).mono ?_
       rintro e w8 ⟨rfl, hb8⟩
       rw [aw_cmp]
       have hb8' := hb7'.trans ((h4.trans (hb8.mono h4.size)).mono hb7'.size)
       clear h1 h2 h3 h4 hb8 q1 f7 hb7')
    | (have q1 := f5; go_at_call 24
       obtain ⟨h1, h2, h3⟩ := ONE.out w5 25 .u64 [258]
       refine (octets_c (some ⟨w5.heap.size, 0, none⟩) 1 1 [258] 3 _ _ h1 W9.out h2 (by omega) (by omega)).mono ?_
       rintro e w6 ⟨A6, c6, rfl, hx6, hb6⟩
       rw [aw_oct] at hx6
       have hb6' := hb5'.trans ((h3.trans (hb6.mono h3.size)).mono hb5'.size)
       have k6 := h3.trans (hb6.mono h3.size)
       clear h1 h2 h3 hb6 q1 f5
       have f6 := True.intro)
    | (have q1 := f4; go_at_call 19
       obtain ⟨h1, h2, h3, h4⟩ := TWO.out w4 25 25 .u64 .u64 [9223372036854775808] [2]
       refine (mul_c (some ⟨w4.heap.size, 0, none⟩) 1 1 [9223372036854775808] (some ⟨w4.heap.size + 1, 0, none⟩) 1 1 [2] _ _ h1 W7.out h2 W8.out h3 (by omega) (by omega)).mono ?_
       rintro e w5 ⟨A5, c5, rfl, hx5, hb5⟩
       rw [aw_mul] at hx5
       have hb5' := hb4'.trans ((h4.trans (hb5.mono h4.size)).mono hb4'.size)
       have k5 := h4.trans (hb5.mono h4.size)
       clear h1 h2 h3 h4 hb5 q1 f4
       have f5 := True.intro)
    | (have q1 := f3; go_at_call 16
       obtain ⟨h1, h2, h3, h4⟩ := TWO.out w3 25 25 .u64 .u64 [5] [0]
       refine (mod_no (some ⟨w3.heap.size, 0, none⟩) 1 1 [5] (some ⟨w3.heap.size + 1, 0, none⟩) 1 1 [0] _ _ h1 W5.out h2 W6.out h3 (by omega) (by omega) (by omega) aw_mod.2.2).mono ?_
       rintro e w4 ⟨A4, c4, rfl, hb4⟩
       have hb4' := hb3'.trans ((h4.trans (hb4.mono h4.size)).mono hb3'.size)
       have k4 := h4.trans (hb4.mono h4.size)
       clear h1 h2 h3 h4 hb4 q1 f3
       have f4 := True.intro)
    | (have q1 := f2; go_at_call 16
       obtain ⟨h1, h2, h3, h4⟩ := TWO.out w2 25 25 .u64 .u64 [0, 1] [10]
       refine (mod_c (some ⟨w2.heap.size, 0, none⟩) 2 2 [0, 1] (some ⟨w2.heap.size + 1, 0, none⟩) 1 1 [10] _ _ h1 W3.out h2 W4.out h3 (by omega) (by omega) (by omega) aw_mod.2.1).mono ?_
       rintro e w3 ⟨A3, c3, rfl, hx3, hb3⟩
       rw [aw_mod.1] at hx3
       have hb3' := hb2'.trans ((h4.trans (hb3.mono h4.size)).mono hb2'.size)
       have k3 := h4.trans (hb3.mono h4.size)
       clear h1 h2 h3 h4 hb3 q1 f2
       have f3 := True.intro)
    | (go_at_call 12
       obtain ⟨h1, h2, h3, h4⟩ := TWO.out w 25 25 .u64 .u64 [18446744073709551615] [1]
       refine (add_c (some ⟨w.heap.size, 0, none⟩) 1 1 [18446744073709551615] (some ⟨w.heap.size + 1, 0, none⟩) 1 1 [1] _ _ h1 W1.out h2 W2.out h3 (by omega) (by omega)).mono ?_
       rintro e w2 ⟨A2, c2, rfl, hx2, hb2⟩
       rw [aw_add.1] at hx2
       rw [aw_add.2]
       have hb2' := h4.trans (hb2.mono h4.size)
       clear h1 h2 h3 h4 hb2
       have f2 := True.intro))
  go_ret
  exact ⟨rfl, hb8'⟩

theorem few_c (A : Option Addr) (n c : Nat) (A' : Option Addr) (n' c' : Nat) (w : World) : Calls Try.prog 11 #[.slice A n c, .slice A' n' c'] w fun e w' => e = .returned (.bool (decide (n ≤ 14 ∧ n' ≤ 14))) ∧ Below w.heap.size w w' := by
  rcases Nat.lt_or_ge 14 n with h | h
  · have hd : decide (n ≤ 14 ∧ n' ≤ 14) = false := decide_eq_false (by omega)
    rw [hd]
    clear hd
    go_enter Try.func11, Try.ntmps11
    go_wp2
    go_ret
    exact ⟨rfl, Below.refl _ _⟩
  · rcases Nat.lt_or_ge 14 n' with h' | h'
    · have hd : decide (n ≤ 14 ∧ n' ≤ 14) = false := decide_eq_false (by omega)
      rw [hd]
      clear hd
      go_enter Try.func11, Try.ntmps11
      go_wp2
      go_ret
      exact ⟨ret_eq (congrArg Value.bool (decide_eq_false (by omega))), Below.refl _ _⟩
    · have hd : decide (n ≤ 14 ∧ n' ≤ 14) = true := decide_eq_true (by omega)
      rw [hd]
      clear hd
      go_enter Try.func11, Try.ntmps11
      go_wp2
      go_ret
      exact ⟨ret_eq (congrArg Value.bool (decide_eq_true (by omega))), Below.refl _ _⟩
end Go.Proofs.Ytnjkmheecmhlcaa.Limb
