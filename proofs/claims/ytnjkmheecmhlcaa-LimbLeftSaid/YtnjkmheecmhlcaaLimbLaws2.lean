/-
  Own text. The walks of layer 3's statements on bytes, and on what is added and taken away.
-/
import Derived.Test.YtnjkmheecmhlcaaLimbAwake
namespace Go.Proofs.Ytnjkmheecmhlcaa.Limb
open Go Go.RowKit Go.Proofs.Ytnjkmheecmhlcaa.Reg Go.Proofs.Ytnjkmheecmhlcaa.Base

theorem emod_mul (v : Int) {p q : Int} (hp : 0 < p) (hq : 0 < q) : v % (p * q) = v % p + p * (v / p % q) := by
  have h1 := Int.mul_ediv_add_emod v p
  have h2 := Int.mul_ediv_add_emod (v / p) q
  have b1 := Int.emod_nonneg v (Int.ne_of_gt hp)
  have b2 := Int.emod_lt_of_pos v hp
  have b3 := Int.emod_nonneg (v / p) (Int.ne_of_gt hq)
  have b4 := Int.emod_lt_of_pos (v / p) hq
  have c1 : 0 ≤ p * (v / p % q) := Int.mul_nonneg (Int.le_of_lt hp) b3
  have c2 : p * (v / p % q) ≤ p * (q - 1) := Int.mul_le_mul_of_nonneg_left (by omega) (Int.le_of_lt hp)
  rw [Int.mul_sub, Int.mul_one] at c2
  refine (split_of (q := v / p / q) (by omega) (by omega) ?_).1
  grind
theorem bn_oct (a : List Int) (N : Nat) : ∀ k, k ≤ N → bn (octL a N) k = num a / tp (8 * (N - k)) % tp (8 * k)
  | 0, _ => by rw [Nat.mul_zero, tp_zero, Int.emod_one]; rfl
  | k + 1, h => by
    have e8 : tp 8 = 256 := rfl
    rw [bn_succ, bn_oct a N k (by omega), octL_nth a (by omega), show N - k = (N - (k + 1)) + 1 by omega, show N - 1 - k = N - (k + 1) by omega, Nat.mul_succ, tp_add, e8, ← div_div (tp_pos _)]
    generalize num a / tp (8 * (N - (k + 1))) = u
    rw [Nat.mul_succ, tp_add, e8, Int.mul_comm (tp (8 * k)) 256, emod_mul u (by omega) (tp_pos _)]
    omega
theorem bnum_oct {a : List Int} (hw : Words a) {n : Nat} (hn : a.length = n) : bnum (octL a (8 * n)) = num a := by
  have hb := num_bounds hw
  rw [bnum, octL_len, bn_oct a (8 * n) (8 * n) (Nat.le_refl _), Nat.sub_self, Nat.mul_zero, tp_zero, Int.ediv_one, show 8 * (8 * n) = 64 * n by omega, tp_wp, ← hn]
  exact Int.emod_eq_of_lt hb.1 hb.2
theorem words_oct {a : List Int} (hw : Words a) {n : Nat} (hn : a.length = n) : wordsL (octL a (8 * n)) = a := by
  rw [wordsL, bnum_oct hw hn, octL_len, show (8 * n + 7) / 8 = n by omega]
  exact wd_num hw hn
theorem cmp_flip (a b : List Int) : cmpL a b = -cmpL b a := by
  unfold cmpL
  rcases Int.lt_trichotomy (num a) (num b) with h | h | h
  · rw [if_pos h, if_neg (by omega), if_neg (by omega)]
  · rw [if_neg (by omega), if_pos h, if_neg (by omega), if_pos h.symm]; rfl
  · rw [if_neg (by omega), if_neg (by omega), if_pos h]; rfl
theorem wp_mono {a b : Nat} (h : a ≤ b) : wp a ≤ wp b := by
  obtain ⟨d, rfl⟩ : ∃ d, b = a + d := ⟨b - a, by omega⟩
  have h1 := wp_pos a
  have h2 := wp_pos d
  have h3 : wp a * 1 ≤ wp a * wp d := Int.mul_le_mul_of_nonneg_left (by omega) (by omega)
  rw [wp_add]; omega
theorem back_num {a b : List Int} (ha : Words a) : num (subL (addL a b) b) = num a := by
  have hb := num_bounds ha
  have h1 := wp_mono (show a.length ≤ max a.length b.length by omega)
  rw [subL, addL, wd_len, show max (max a.length b.length) b.length = max a.length b.length by omega, num_wd, num_wd, Int.emod_sub_emod, Int.add_sub_cancel]
  exact Int.emod_eq_of_lt hb.1 (by omega)
theorem back_cmp {a b : List Int} (ha : Words a) : cmpL (subL (addL a b) b) a = 0 := by
  unfold cmpL
  rw [back_num ha, if_neg (by omega), if_pos rfl]
theorem borrow_order (a b : List Int) : (subC a b == 1) = decide (cmpL a b < 0) := by
  unfold subC cmpL
  by_cases h : num a < num b
  · rw [if_pos h, if_pos h]; rfl
  · rw [if_neg h, if_neg h]
    split <;> rfl

set_option maxRecDepth 100000 in
set_option maxHeartbeats 4000000 in
theorem octets_neg (A : Option Addr) (n c : Nat) (a : List Int) (N : Int) (A' : Option Addr) (n' c' : Nat) (b : List Int) (w : World) (hr : Rd w w.heap.size A n .u64 a) (hwa : Words a) (hr' : Rd w w.heap.size A' n' .u8 b) (hby : Bytes b) (hn : n ≤ 14 ∧ n' ≤ 300) (hN : N < 0) (hlo : -9223372036854775808 ≤ N) : Calls Try.prog 5 #[.slice A n c, .int .i64 N, .slice A' n' c'] w fun e w' => e = .returned (.bool true) ∧ Below w.heap.size w w' := by
  have HN : Keep (n ≤ 14 ∧ n' ≤ 300) := ⟨hn⟩
  have WA : Keep _ := ⟨hwa⟩
  have BY : Keep _ := ⟨hby⟩
  have hb0 : Below w.heap.size w w := Below.refl _ _
  have hn1 : n ≤ 14 := hn.1
  have hn2 : n' ≤ 300 := by omega
  
  clear hn hwa hby
  go_enter Try.func5, Try.ntmps5
  go_wp2_with (first
    | (have q1 := f6; go_at_call 18
       refine (same64_c A5 A6 ((n' + 7) / 8) c5 ((n' + 7) / 8) c6 (wordsL b) (wordsL b) _ _ _ (hx5.here k5_6) (Nat.le_refl _) hx6.rd (Nat.le_refl _) (by have := HN.out; omega) (by have := HN.out; omega)).mono ?_
       rintro e w7 ⟨rfl, hb⟩
       rw [decide_eq_true (rfl : (wordsL b) = (wordsL b))]
       have hb7 := hb6.trans (hb.mono hb6.size)
       have k5_7 := k5_6.trans (hb.mono k5_6.size)
       have k6_7 := hb
       clear hb k5_6 hb6 q1 f6
       have f7 := True.intro)
    | (have q1 := f5; go_at_call 27
       refine (refWords_c A' n' c' b _ _ (rd_here hr' hb5) BY.out (Nat.le_refl _) (by have := HN.out; omega)).mono ?_
       rintro e w6 ⟨A6, c6, rfl, ho, hb⟩
       have hx6 := Frs.of_own ho
       clear ho
       have hb6 := hb5.trans (hb.mono hb5.size)
       have k5_6 := hb
       clear hb hb5 q1 f5
       have f6 := True.intro)
    | (have q1 := f4; go_at_call 26
       refine (words_c A' n' c' b _ _ (rd_here hr' hb4) BY.out (Nat.le_refl _) (by have := HN.out; omega)).mono ?_
       rintro e w5 ⟨A5, c5, rfl, hx5, hb⟩
       have hb5 := hb4.trans (hb.mono hb4.size)
       clear hb hb4 q1 f4
       have f5 := True.intro)
    | (have q1 := f3; go_at_call 23
       refine (same8_c A2 none 0 c2 0 0 [] [] _ _ _ (Rd.nil_ (B := 0)) (Nat.zero_le _) (Rd.nil_ (B := 0)) (Nat.zero_le _) (by omega) (by omega)).mono ?_
       rintro e w4 ⟨rfl, hb⟩
       rw [decide_eq_true (rfl : ([] : List Int) = [])]
       have hb4 := hb3.trans (hb.mono hb3.size)
       clear hb hb3 q1 f3
       have f4 := True.intro)
    | (have q1 := f2; go_at_call 25
       refine (refOctets_no _ N _ hN).mono ?_
       rintro e w3 ⟨rfl, hb⟩
       have hb3 := hb2.trans (hb.mono hb2.size)
       clear hb hb2 q1 f2
       have f3 := True.intro)
    | (have q1 := f1; go_at_call 24
       refine (octets_no A n c N _ hN hlo).mono ?_
       rintro e w2 ⟨A2, c2, rfl, hb⟩
       have hb2 := hb1.trans (hb.mono hb1.size)
       clear hb hb1 q1 f1
       have f2 := True.intro)
    | (go_at_call 10
       refine (awake_c _).mono ?_
       rintro e w1 ⟨rfl, hb⟩
       have hb1 := hb0.trans (hb.mono hb0.size)
       clear hb hb0
       have f1 := True.intro))
  go_ret
  exact ⟨rfl, hb7⟩

set_option maxRecDepth 100000 in
set_option maxHeartbeats 4000000 in
theorem octets_pos (A : Option Addr) (n c : Nat) (a : List Int) (N : Nat) (A' : Option Addr) (n' c' : Nat) (b : List Int) (w : World) (hr : Rd w w.heap.size A n .u64 a) (hwa : Words a) (hr' : Rd w w.heap.size A' n' .u8 b) (hby : Bytes b) (hn : n ≤ 14 ∧ n' ≤ 300 ∧ N ≤ 300) : Calls Try.prog 5 #[.slice A n c, .int .i64 (N : Int), .slice A' n' c'] w fun e w' => e = .returned (.bool true) ∧ Below w.heap.size w w' := by
  have HN : Keep (n ≤ 14 ∧ n' ≤ 300 ∧ N ≤ 300) := ⟨hn⟩
  have WA : Keep _ := ⟨hwa⟩
  have BY : Keep _ := ⟨hby⟩
  have hb0 : Below w.heap.size w w := Below.refl _ _
  have hn1 : n ≤ 14 := hn.1
  have hn2 : n' ≤ 300 := by omega
  have hn3 : N ≤ 300 := by omega
  clear hn hwa hby
  go_enter Try.func5, Try.ntmps5
  go_wp2_with (first
    | (have q1 := f6; go_at_call 18
       refine (same64_c A5 A6 ((n' + 7) / 8) c5 ((n' + 7) / 8) c6 (wordsL b) (wordsL b) _ _ _ (hx5.here k5_6) (Nat.le_refl _) hx6.rd (Nat.le_refl _) (by have := HN.out; omega) (by have := HN.out; omega)).mono ?_
       rintro e w7 ⟨rfl, hb⟩
       rw [decide_eq_true (rfl : (wordsL b) = (wordsL b))]
       have hb7 := hb6.trans (hb.mono hb6.size)
       have k2_7 := k2_6.trans (hb.mono k2_6.size)
       have k3_7 := k3_6.trans (hb.mono k3_6.size)
       have k5_7 := k5_6.trans (hb.mono k5_6.size)
       have k6_7 := hb
       clear hb k2_6 k3_6 k5_6 hb6 q1 f6
       have f7 := True.intro)
    | (have q1 := f5; go_at_call 27
       refine (refWords_c A' n' c' b _ _ (rd_here hr' hb5) BY.out (Nat.le_refl _) (by have := HN.out; omega)).mono ?_
       rintro e w6 ⟨A6, c6, rfl, ho, hb⟩
       have hx6 := Frs.of_own ho
       clear ho
       have hb6 := hb5.trans (hb.mono hb5.size)
       have k2_6 := k2_5.trans (hb.mono k2_5.size)
       have k3_6 := k3_5.trans (hb.mono k3_5.size)
       have k5_6 := hb
       clear hb k2_5 k3_5 hb5 q1 f5
       have f6 := True.intro)
    | (have q1 := f4; go_at_call 26
       refine (words_c A' n' c' b _ _ (rd_here hr' hb4) BY.out (Nat.le_refl _) (by have := HN.out; omega)).mono ?_
       rintro e w5 ⟨A5, c5, rfl, hx5, hb⟩
       have hb5 := hb4.trans (hb.mono hb4.size)
       have k2_5 := k2_4.trans (hb.mono k2_4.size)
       have k3_5 := k3_4.trans (hb.mono k3_4.size)
       clear hb k2_4 k3_4 hb4 q1 f4
       have f5 := True.intro)
    | (have q1 := f3; go_at_call 23
       refine (same8_c A2 A3 N c2 N c3 (octL a N) (octL a N) _ _ _ (hx2.here k2_3) (Nat.le_refl _) hx3.rd (Nat.le_refl _) (by have := HN.out; omega) (by have := HN.out; omega)).mono ?_
       rintro e w4 ⟨rfl, hb⟩
       rw [decide_eq_true (rfl : (octL a N) = (octL a N))]
       have hb4 := hb3.trans (hb.mono hb3.size)
       have k2_4 := k2_3.trans (hb.mono k2_3.size)
       have k3_4 := hb
       clear hb k2_3 hb3 q1 f3
       have f4 := True.intro)
    | (have q1 := f2; go_at_call 25
       refine (refOctets_c A n c a N _ _ (rd_here hr hb2) WA.out (Nat.le_refl _) (by have := HN.out; omega) (by have := HN.out; omega)).mono ?_
       rintro e w3 ⟨A3, c3, rfl, ho, hb⟩
       have hx3 := Frs.of_own ho
       clear ho
       have hb3 := hb2.trans (hb.mono hb2.size)
       have k2_3 := hb
       clear hb hb2 q1 f2
       have f3 := True.intro)
    | (have q1 := f1; go_at_call 24
       refine (octets_c A n c a N _ _ (rd_here hr hb1) WA.out (Nat.le_refl _) (by have := HN.out; omega) (by have := HN.out; omega)).mono ?_
       rintro e w2 ⟨A2, c2, rfl, hx2, hb⟩
       have hb2 := hb1.trans (hb.mono hb1.size)
       clear hb hb1 q1 f1
       have f2 := True.intro)
    | (go_at_call 10
       refine (awake_c _).mono ?_
       rintro e w1 ⟨rfl, hb⟩
       have hb1 := hb0.trans (hb.mono hb0.size)
       clear hb hb0
       have f1 := True.intro))
  go_ret
  exact ⟨rfl, hb7⟩

set_option maxRecDepth 100000 in
set_option maxHeartbeats 1000000 in
theorem octets_big (A : Option Addr) (n c : Nat) (N : Int) (A' : Option Addr) (n' c' : Nat) (w : World) (hn : 14 < n ∨ 300 < N ∨ 300 < n') : Calls Try.prog 5 #[.slice A n c, .int .i64 N, .slice A' n' c'] w fun e w' => e = .returned (.bool true) ∧ Below w.heap.size w w' := by
  rcases Nat.lt_or_ge 14 n with h1 | h1
  · clear hn
    go_enter Try.func5, Try.ntmps5
    go_wp2_with (go_at_call 10; refine (awake_c _).mono ?_; rintro e w1 ⟨rfl, hb1⟩)
    go_ret
    exact ⟨rfl, hb1⟩
  · rcases Int.lt_or_le 300 N with h2 | h2
    · clear hn
      go_enter Try.func5, Try.ntmps5
      go_wp2_with (go_at_call 10; refine (awake_c _).mono ?_; rintro e w1 ⟨rfl, hb1⟩)
      go_ret
      exact ⟨rfl, hb1⟩
    · have h3 : 300 < n' := by omega
      clear hn
      go_enter Try.func5, Try.ntmps5
      go_wp2_with (go_at_call 10; refine (awake_c _).mono ?_; rintro e w1 ⟨rfl, hb1⟩)
      go_ret
      exact ⟨rfl, hb1⟩

theorem octets_w {w : World} {A : Option Addr} {n : Nat} (c : Nat) {a : List Int} {A' : Option Addr} {n' : Nat} (c' : Nat) {b : List Int} (N : Int) (hlo : -9223372036854775808 ≤ N) (h : Rd w w.heap.size A n .u64 a ∧ Words a) (h' : Rd w w.heap.size A' n' .u8 b ∧ Bytes b) :
    Calls Try.prog 5 #[.slice A n c, .int .i64 N, .slice A' n' c'] w fun e w' => e = .returned (.bool true) ∧ Below w.heap.size w w' := by
  by_cases hn : 14 < n ∨ 300 < N ∨ 300 < n'
  · exact octets_big A n c N A' n' c' w hn
  · rcases Int.lt_or_le N 0 with hN | hN
    · exact octets_neg A n c a N A' n' c' b w h.1 h.2 h'.1 h'.2 (by omega) hN hlo
    · obtain ⟨N, rfl⟩ : ∃ z : Nat, N = z := ⟨N.toNat, by omega⟩
      exact octets_pos A n c a N A' n' c' b w h.1 h.2 h'.1 h'.2 (by omega)

set_option maxRecDepth 100000 in
set_option maxHeartbeats 4000000 in
theorem back_small (A : Option Addr) (n c : Nat) (a : List Int) (A' : Option Addr) (n' c' : Nat) (b : List Int) (w : World) (hr : Rd w w.heap.size A n .u64 a) (hwa : Words a) (hr' : Rd w w.heap.size A' n' .u64 b) (hwb : Words b) (hn : n ≤ 14 ∧ n' ≤ 14) : Calls Try.prog 6 #[.slice A n c, .slice A' n' c'] w fun e w' => e = .returned (.bool true) ∧ Below w.heap.size w w' := by
  have HD : Keep _ := ⟨(decide_eq_true hn : decide (n ≤ 14 ∧ n' ≤ 14) = true)⟩
  have HN : Keep (n ≤ 14 ∧ n' ≤ 14) := ⟨hn⟩
  have HM : Keep (max (max n n') n' = max n n') := ⟨by omega⟩
  have H8 : Keep ((8 * n + 7) / 8 = n) := ⟨by omega⟩
  have HWO : Keep _ := ⟨words_oct hwa hr.len⟩
  have HBC : Keep _ := ⟨back_cmp (b := b) hwa⟩
  have hbo := borrow_order a b
  obtain ⟨x, hx⟩ : ∃ x, cmpL a b = x := ⟨_, rfl⟩
  have HC1 : Keep _ := ⟨hx⟩
  have HC2 : Keep (cmpL b a = -x) := ⟨by rw [cmp_flip, hx]⟩
  rw [hx] at hbo
  have WA : Keep _ := ⟨hwa⟩
  have WB : Keep _ := ⟨hwb⟩
  have hb0 : Below w.heap.size w w := Below.refl _ _
  have hx1 : -1 ≤ x ∧ x ≤ 1 := by
    rw [← hx]; unfold cmpL
    split
    · omega
    · split <;> omega
  have hn1 : n ≤ 14 := hn.1
  clear hn hwa hwb hx
  go_enter Try.func6, Try.ntmps6
  go_wp2_with (first
    | (have q1 := f10; go_at_call 21
       refine (cmp_c A4 (max n n') c4 (subL (addL a b) b) A n c a _ _ (hx4.here k4_10) (wd_words _ _) (rd_here hr hb10) WA.out (Nat.le_refl _) (by have := HN.out; omega) (by have := HN.out; omega)).mono ?_
       rintro e w11 ⟨rfl, hb⟩
       rw [HBC.out]
       have hb11 := hb10.trans (hb.mono hb10.size)
       have k3_11 := k3_10.trans (hb.mono k3_10.size)
       have k4_11 := k4_10.trans (hb.mono k4_10.size)
       have k5_11 := k5_10.trans (hb.mono k5_10.size)
       have k6_11 := k6_10.trans (hb.mono k6_10.size)
       have k7_11 := k7_10.trans (hb.mono k7_10.size)
       clear hb k3_10 k4_10 k5_10 k6_10 k7_10 hb10 q1 f10
       have f11 := True.intro)
    | (have q1 := f9; go_at_call 18
       refine (same64_c A7 A n c7 n c a a _ _ _ (hx7.here k7_9) (Nat.le_refl _) (rd_here hr hb9) (Nat.le_refl _) (by have := HN.out; omega) (by have := HN.out; omega)).mono ?_
       rintro e w10 ⟨rfl, hb⟩
       rw [decide_eq_true (rfl : a = a)]
       have hb10 := hb9.trans (hb.mono hb9.size)
       have k3_10 := k3_9.trans (hb.mono k3_9.size)
       have k4_10 := k4_9.trans (hb.mono k4_9.size)
       have k5_10 := k5_9.trans (hb.mono k5_9.size)
       have k6_10 := k6_9.trans (hb.mono k6_9.size)
       have k7_10 := k7_9.trans (hb.mono k7_9.size)
       clear hb k3_9 k4_9 k5_9 k6_9 k7_9 hb9 q1 f9
       have f10 := True.intro)
    | (have q1 := f8; go_at_call 21
       refine (cmp_c A' n' c' b A n c a _ _ (rd_here hr' hb8) WB.out (rd_here hr hb8) WA.out (Nat.le_refl _) (by have := HN.out; omega) (by have := HN.out; omega)).mono ?_
       rintro e w9 ⟨rfl, hb⟩
       rw [HC2.out]
       have hb9 := hb8.trans (hb.mono hb8.size)
       have k3_9 := k3_8.trans (hb.mono k3_8.size)
       have k4_9 := k4_8.trans (hb.mono k4_8.size)
       have k5_9 := k5_8.trans (hb.mono k5_8.size)
       have k6_9 := k6_8.trans (hb.mono k6_8.size)
       have k7_9 := k7_8.trans (hb.mono k7_8.size)
       clear hb k3_8 k4_8 k5_8 k6_8 k7_8 hb8 q1 f8
       have f9 := True.intro)
    | (have q1 := f7; go_at_call 21
       refine (cmp_c A n c a A' n' c' b _ _ (rd_here hr hb7) WA.out (rd_here hr' hb7) WB.out (Nat.le_refl _) (by have := HN.out; omega) (by have := HN.out; omega)).mono ?_
       rintro e w8 ⟨rfl, hb⟩
       rw [HC1.out]
       have hb8 := hb7.trans (hb.mono hb7.size)
       have k3_8 := k3_7.trans (hb.mono k3_7.size)
       have k4_8 := k4_7.trans (hb.mono k4_7.size)
       have k5_8 := k5_7.trans (hb.mono k5_7.size)
       have k6_8 := k6_7.trans (hb.mono k6_7.size)
       have k7_8 := hb
       clear hb k3_7 k4_7 k5_7 k6_7 hb7 q1 f7
       have f8 := True.intro)
    | (have q1 := f6; go_at_call 26
       refine (words_c A6 (8 * n) c6 (octL a (8 * n)) _ _ hx6.rd (octL_bytes _ _) (Nat.le_refl _) (by have := HN.out; omega)).mono ?_
       rintro e w7 ⟨A7, c7, rfl, hx7, hb⟩
       rw [HWO.out, H8.out] at hx7
       rw [H8.out]
       have hb7 := hb6.trans (hb.mono hb6.size)
       have k3_7 := k3_6.trans (hb.mono k3_6.size)
       have k4_7 := k4_6.trans (hb.mono k4_6.size)
       have k5_7 := k5_6.trans (hb.mono k5_6.size)
       have k6_7 := hb
       clear hb k3_6 k4_6 k5_6 hb6 q1 f6
       have f7 := True.intro)
    | (have q1 := f5; go_at_call 24
       refine (octets_c A n c a (8 * n) _ _ (rd_here hr hb5) WA.out (Nat.le_refl _) (by have := HN.out; omega) (by have := HN.out; omega)).mono ?_
       rintro e w6 ⟨A6, c6, rfl, hx6, hb⟩
       have hb6 := hb5.trans (hb.mono hb5.size)
       have k3_6 := k3_5.trans (hb.mono k3_5.size)
       have k4_6 := k4_5.trans (hb.mono k4_5.size)
       have k5_6 := hb
       clear hb k3_5 k4_5 hb5 q1 f5
       have f6 := True.intro)
    | (have q1 := f4; go_at_call 14
       refine (sub_c A n c a A' n' c' b _ _ (rd_here hr hb4) WA.out (rd_here hr' hb4) WB.out (Nat.le_refl _) (by have := HN.out; omega) (by have := HN.out; omega)).mono ?_
       rintro e w5 ⟨A5, c5, rfl, hx5, hb⟩
       have hb5 := hb4.trans (hb.mono hb4.size)
       have k3_5 := k3_4.trans (hb.mono k3_4.size)
       have k4_5 := hb
       clear hb k3_4 hb4 q1 f4
       have f5 := True.intro)
    | (have q1 := f3; go_at_call 14
       refine (sub_c A3 (max n n') c3 (addL a b) A' n' c' b _ _ hx3.rd (wd_words _ _) (rd_here hr' hb3) WB.out (Nat.le_refl _) (by have := HN.out; omega) (by have := HN.out; omega)).mono ?_
       rintro e w4 ⟨A4, c4, rfl, hx4, hb⟩
       rw [HM.out] at hx4
       rw [HM.out]
       have hb4 := hb3.trans (hb.mono hb3.size)
       have k3_4 := hb
       clear hb hb3 q1 f3
       have f4 := True.intro)
    | (have q1 := f2; go_at_call 12
       refine (add_c A n c a A' n' c' b _ _ (rd_here hr hb2) WA.out (rd_here hr' hb2) WB.out (Nat.le_refl _) (by have := HN.out; omega) (by have := HN.out; omega)).mono ?_
       rintro e w3 ⟨A3, c3, rfl, hx3, hb⟩
       have hb3 := hb2.trans (hb.mono hb2.size)
       clear hb hb2 q1 f2
       have f3 := True.intro)
    | (have q1 := f1; go_at_call 11
       refine (few_c A n c A' n' c' _).mono ?_
       rintro e w2 ⟨rfl, hb⟩
       rw [HD.out]
       have hb2 := hb1.trans (hb.mono hb1.size)
       clear hb hb1 q1 f1
       have f2 := True.intro)
    | (go_at_call 10
       refine (awake_c _).mono ?_
       rintro e w1 ⟨rfl, hb⟩
       have hb1 := hb0.trans (hb.mono hb0.size)
       clear hb hb0
       have f1 := True.intro))
  go_ret
  exact ⟨rfl, hb11⟩

set_option maxRecDepth 100000 in
set_option maxHeartbeats 600000 in
theorem back_big (A : Option Addr) (n c : Nat) (A' : Option Addr) (n' c' : Nat) (w : World) (hn : ¬ (n ≤ 14 ∧ n' ≤ 14)) : Calls Try.prog 6 #[.slice A n c, .slice A' n' c'] w fun e w' => e = .returned (.bool true) ∧ Below w.heap.size w w' := by
  have HD : Keep _ := ⟨(decide_eq_false hn : decide (n ≤ 14 ∧ n' ≤ 14) = false)⟩
  clear hn
  go_enter Try.func6, Try.ntmps6
  go_wp2_with (first
    | (go_at_call 10; refine (awake_c _).mono ?_; rintro e w1 ⟨rfl, hb1⟩)
    | (go_at_call 11; refine (few_c A n c A' n' c' w1).mono ?_; rintro e w2 ⟨rfl, hb2⟩; rw [HD.out]; have hbb2 := hb1.trans (hb2.mono hb1.size)))
  go_ret
  exact ⟨rfl, hbb2⟩

theorem back_w {w : World} {A : Option Addr} {n : Nat} (c : Nat) {a : List Int} {A' : Option Addr} {n' : Nat} (c' : Nat) {b : List Int} (h : Rd w w.heap.size A n .u64 a ∧ Words a) (h' : Rd w w.heap.size A' n' .u64 b ∧ Words b) :
    Calls Try.prog 6 #[.slice A n c, .slice A' n' c'] w fun e w' => e = .returned (.bool true) ∧ Below w.heap.size w w' := by
  by_cases hn : n ≤ 14 ∧ n' ≤ 14
  · exact back_small A n c a A' n' c' b w h.1 h.2 h'.1 h'.2 hn
  · exact back_big A n c A' n' c' w hn
end Go.Proofs.Ytnjkmheecmhlcaa.Limb
