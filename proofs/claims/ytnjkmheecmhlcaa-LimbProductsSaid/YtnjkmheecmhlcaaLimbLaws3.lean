/-
  Own text. The walks of layer 3's statements on products, and on what is left.
-/
import Derived.Test.YtnjkmheecmhlcaaLimbLaws2
namespace Go.Proofs.Ytnjkmheecmhlcaa.Limb
open Go Go.RowKit Go.Proofs.Ytnjkmheecmhlcaa.Reg Go.Proofs.Ytnjkmheecmhlcaa.Base

theorem addC_bounds {a b : List Int} (ha : Words a) (hb : Words b) : 0 ≤ addC a b ∧ addC a b ≤ 1 := by
  have h1 := num_bounds ha
  have h2 := num_bounds hb
  have h3 := wp_mono (show a.length ≤ max a.length b.length by omega)
  have h4 := wp_mono (show b.length ≤ max a.length b.length by omega)
  have p := wp_pos (max a.length b.length)
  unfold addC
  refine ⟨Int.ediv_nonneg (by omega) (by omega), ?_⟩
  have := Int.ediv_lt_of_lt_mul p (show num a + num b < 2 * wp (max a.length b.length) by omega)
  omega
/-- A sum with what is carried on top is the sum. -/
theorem num_sum {a b : List Int} : num (addL a b ++ [addC a b]) = num a + num b := by
  rw [num_snoc, addL, wd_len, num_wd, addC]
  have := Int.mul_ediv_add_emod (num a + num b) (wp (max a.length b.length))
  omega
theorem words_sum {a b : List Int} (ha : Words a) (hb : Words b) : Words (addL a b ++ [addC a b]) := by
  have := addC_bounds ha hb
  exact words_append (wd_words _ _) (words_one this.1 (by omega))
theorem mul_bounds {a b : List Int} (ha : Words a) (hb : Words b) {m : Nat} (h : a.length + b.length = m) : num (wd m (num a * num b)) = num a * num b := by
  subst h
  have h1 := num_bounds ha
  have h2 := num_bounds hb
  refine num_wd_of (Int.mul_nonneg h1.1 h2.1) ?_
  rw [wp_add]
  have h3 : num a * num b ≤ num a * wp b.length := Int.mul_le_mul_of_nonneg_left (by omega) h1.1
  have h4 : (num a + 1) * wp b.length ≤ wp a.length * wp b.length := Int.mul_le_mul_of_nonneg_right (by omega) (Int.le_of_lt (wp_pos _))
  have h5 := wp_pos b.length
  rw [Int.add_mul, Int.one_mul] at h4
  omega
theorem prod_cmp {a b c : List Int} (ha : Words a) (hb : Words b) (hc : Words c) {n n' n'' : Nat} (la : a.length = n) (lb : b.length = n') (lc : c.length = n'') :
    cmpL (wd (n + (max n' n'' + 1)) (num a * num (addL b c ++ [addC b c]))) (addL (wd (n + n') (num a * num b)) (wd (n + n'') (num a * num c)) ++ [addC (wd (n + n') (num a * num b)) (wd (n + n'') (num a * num c))]) = 0 := by
  have e1 := mul_bounds ha (words_sum hb hc) (m := n + (max n' n'' + 1)) (by rw [List.length_append, addL, wd_len, la, lb, lc]; rfl)
  have e2 := num_sum (a := wd (n + n') (num a * num b)) (b := wd (n + n'') (num a * num c))
  rw [mul_bounds ha hb (by omega), mul_bounds ha hc (by omega)] at e2
  have e3 := num_sum (a := b) (b := c)
  unfold cmpL
  rw [e1, e2, e3, Int.mul_add, if_neg (by omega), if_pos rfl]

set_option maxRecDepth 100000 in
set_option maxHeartbeats 4000000 in
theorem products_small (A : Option Addr) (n c : Nat) (a : List Int) (A' : Option Addr) (n' c' : Nat) (b : List Int) (A'' : Option Addr) (n'' c'' : Nat) (k : List Int) (w : World) (hr : Rd w w.heap.size A n .u64 a) (hwa : Words a) (hr' : Rd w w.heap.size A' n' .u64 b) (hwb : Words b) (hr'' : Rd w w.heap.size A'' n'' .u64 k) (hwk : Words k) (hn : n ≤ 10 ∧ n' ≤ 10 ∧ n'' ≤ 10) : Calls Try.prog 7 #[.slice A n c, .slice A' n' c', .slice A'' n'' c''] w fun e w' => e = .returned (.bool true) ∧ Below w.heap.size w w' := by
  have HN : Keep (n ≤ 10 ∧ n' ≤ 10 ∧ n'' ≤ 10) := ⟨hn⟩
  have WS : Keep _ := ⟨words_sum hwb hwk⟩
  have WT : Keep _ := ⟨words_sum (wd_words (n + n') (num a * num b)) (wd_words (n + n'') (num a * num k))⟩
  have HCM : Keep _ := ⟨prod_cmp hwa hwb hwk hr.len hr'.len hr''.len⟩
  have HPQ : Keep (decide (wd (n + n') (num a * num b) = wd (n' + n) (num b * num a)) = true) := ⟨decide_eq_true (by rw [Nat.add_comm, Int.mul_comm])⟩
  have WA : Keep _ := ⟨hwa⟩
  have WB : Keep _ := ⟨hwb⟩
  have WK : Keep _ := ⟨hwk⟩
  have hb0 : Below w.heap.size w w := Below.refl _ _
  obtain ⟨m9, hm9⟩ : ∃ m, max (n + n') (n + n'') = m := ⟨_, rfl⟩
  have HM9 : Keep _ := ⟨hm9⟩
  have hm9b : m9 ≤ 20 := by omega
  clear hm9
  have hn1 : n ≤ 10 := hn.1
  have hn2 : n' ≤ 10 := hn.2.1
  have hn3 : n'' ≤ 10 := hn.2.2
  clear hn hwa hwb hwk
  go_enter Try.func7, Try.ntmps7
  go_wp2_with (first
    | (have q1 := f11; go_at_call 21
       refine (cmp_c A6 (n + (max n' n'' + 1)) c6 (wd (n + (max n' n'' + 1)) (num a * num (addL b k ++ [addC b k]))) A10 (m9 + 1) c10 (addL (wd (n + n') (num a * num b)) (wd (n + n'') (num a * num k)) ++ [addC (wd (n + n') (num a * num b)) (wd (n + n'') (num a * num k))]) _ _ (hx6.here k6_11) (wd_words _ _) (hx10.here k10_11) WT.out (Nat.le_refl _) (by have := HN.out; omega) (by have := HN.out; omega)).mono ?_
       rintro e w12 ⟨rfl, hb⟩
       rw [HCM.out]
       have hb12 := hb11.trans (hb.mono hb11.size)
       have k2_12 := k2_11.trans (hb.mono k2_11.size)
       have k3_12 := k3_11.trans (hb.mono k3_11.size)
       have k4_12 := k4_11.trans (hb.mono k4_11.size)
       have k5_12 := k5_11.trans (hb.mono k5_11.size)
       have k6_12 := k6_11.trans (hb.mono k6_11.size)
       have k7_12 := k7_11.trans (hb.mono k7_11.size)
       have k8_12 := k8_11.trans (hb.mono k8_11.size)
       have k9_12 := k9_11.trans (hb.mono k9_11.size)
       have k10_12 := k10_11.trans (hb.mono k10_11.size)
       clear hb k2_11 k3_11 k4_11 k5_11 k6_11 k7_11 k8_11 k9_11 k10_11 hb11 q1 f11
       have f12 := True.intro)
    | (have q1 := f10; go_at_call 18
       refine (same64_c A2 A3 (n + n') c2 (n' + n) c3 (wd (n + n') (num a * num b)) (wd (n' + n) (num b * num a)) _ _ _ (hx2.here k2_10) (Nat.le_refl _) (hx3.here k3_10) (Nat.le_refl _) (by have := HN.out; omega) (by have := HN.out; omega)).mono ?_
       rintro e w11 ⟨rfl, hb⟩
       rw [HPQ.out]
       have hb11 := hb10.trans (hb.mono hb10.size)
       have k2_11 := k2_10.trans (hb.mono k2_10.size)
       have k3_11 := k3_10.trans (hb.mono k3_10.size)
       have k4_11 := k4_10.trans (hb.mono k4_10.size)
       have k5_11 := k5_10.trans (hb.mono k5_10.size)
       have k6_11 := k6_10.trans (hb.mono k6_10.size)
       have k7_11 := k7_10.trans (hb.mono k7_10.size)
       have k8_11 := k8_10.trans (hb.mono k8_10.size)
       have k9_11 := k9_10.trans (hb.mono k9_10.size)
       have k10_11 := hb
       clear hb k2_10 k3_10 k4_10 k5_10 k6_10 k7_10 k8_10 k9_10 hb10 q1 f10
       have f11 := True.intro)
    | (have q1 := g10; refine append_abs (by rfl) (.tmp 64) (.tmp 66) 23 (by rfl) w9.heap.size 25 .u64 8 Try.underlying23 u64Elem B10 m9 d10 (addL (wd (n + n') (num a * num b)) (wd (n + n'') (num a * num k))) (by rfl) (ho10.keep ((Below.refl _ _).alloc (Nat.le_refl _) _)) (v10.heap.size + 1) (some ⟨v10.heap.size, 0, none⟩) 1 1 [addC (wd (n + n') (num a * num b)) (wd (n + n'') (num a * num k))] (by rfl) (Rd.of_has (Has.new v10 25 (vals .u64 [addC (wd (n + n') (num a * num b)) (wd (n + n'') (num a * num k))])) (by omega) (by rfl) (by simp)) (m9 + 1) (by rfl) ((addL (wd (n + n') (num a * num b)) (wd (n + n'') (num a * num k))) ++ [addC (wd (n + n') (num a * num b)) (wd (n + n'') (num a * num k))]) (by rfl) (by have := HN.out; omega) (by unfold maxLen; have := HN.out; omega) (by simp; omega) ?_
       intro A10 c10 w10 hoo hbx
       have hb := (hby.alloc hby.size (.cells (vals .u64 [addC (wd (n + n') (num a * num b)) (wd (n + n'') (num a * num k))]) 25)).trans hbx
       have hx10 := Frs.of_own hoo
       clear hoo ho10 hbx hby hbz
       have hb10 := hb9.trans (hb.mono hb9.size)
       have k2_10 := k2_9.trans (hb.mono k2_9.size)
       have k3_10 := k3_9.trans (hb.mono k3_9.size)
       have k4_10 := k4_9.trans (hb.mono k4_9.size)
       have k5_10 := k5_9.trans (hb.mono k5_9.size)
       have k6_10 := k6_9.trans (hb.mono k6_9.size)
       have k7_10 := k7_9.trans (hb.mono k7_9.size)
       have k8_10 := k8_9.trans (hb.mono k8_9.size)
       have k9_10 := hb
       clear hb k2_9 k3_9 k4_9 k5_9 k6_9 k7_9 k8_9 hb9 q1 g10
       have f10 := True.intro)
    | (have q1 := f9; refine append_abs (by rfl) (.tmp 62) (.tmp 63) 23 (by rfl) w9.heap.size 25 .u64 8 Try.underlying23 u64Elem (some ⟨w9.heap.size, 0, none⟩) 0 0 [] (by rfl) (Own.of_has (Has.new w9 25 (vals .u64 [])) (Nat.le_refl _) (Nat.zero_le _)) w9.heap.size A9 m9 c9 (addL (wd (n + n') (num a * num b)) (wd (n + n'') (num a * num k))) (by rfl) (hx9.rd.keep ((Below.refl w9.heap.size w9).alloc (Nat.le_refl _) _) (Nat.le_refl _)) m9 (Nat.zero_add _) (addL (wd (n + n') (num a * num b)) (wd (n + n'') (num a * num k))) (by rfl) (by have := HN.out; omega) (by unfold maxLen; have := HN.out; omega) (by simp) ?_
       intro B10 d10 v10 ho10 hbx
       have hby := ((Below.refl w9.heap.size w9).alloc (Nat.le_refl _) (.cells (vals .u64 []) 25)).trans hbx
       have hbz := hby.size
       clear hbx q1 f9
       have g10 := True.intro)
    | (have q1 := f8; go_at_call 12
       refine (add_c A7 (n + n') c7 (wd (n + n') (num a * num b)) A8 (n + n'') c8 (wd (n + n'') (num a * num k)) _ _ (hx7.here k7_8) (wd_words _ _) hx8.rd (wd_words _ _) (Nat.le_refl _) (by have := HN.out; omega) (by have := HN.out; omega)).mono ?_
       rintro e w9 ⟨A9, c9, rfl, hx9, hb⟩
       rw [HM9.out] at hx9
       rw [HM9.out]
       have hb9 := hb8.trans (hb.mono hb8.size)
       have k2_9 := k2_8.trans (hb.mono k2_8.size)
       have k3_9 := k3_8.trans (hb.mono k3_8.size)
       have k4_9 := k4_8.trans (hb.mono k4_8.size)
       have k5_9 := k5_8.trans (hb.mono k5_8.size)
       have k6_9 := k6_8.trans (hb.mono k6_8.size)
       have k7_9 := k7_8.trans (hb.mono k7_8.size)
       have k8_9 := hb
       clear hb k2_8 k3_8 k4_8 k5_8 k6_8 k7_8 hb8 q1 f8
       have f9 := True.intro)
    | (have q1 := f7; go_at_call 19
       refine (mul_c A n c a A'' n'' c'' k _ _ (rd_here hr hb7) WA.out (rd_here hr'' hb7) WK.out (Nat.le_refl _) (by have := HN.out; omega) (by have := HN.out; omega)).mono ?_
       rintro e w8 ⟨A8, c8, rfl, hx8, hb⟩
       have hb8 := hb7.trans (hb.mono hb7.size)
       have k2_8 := k2_7.trans (hb.mono k2_7.size)
       have k3_8 := k3_7.trans (hb.mono k3_7.size)
       have k4_8 := k4_7.trans (hb.mono k4_7.size)
       have k5_8 := k5_7.trans (hb.mono k5_7.size)
       have k6_8 := k6_7.trans (hb.mono k6_7.size)
       have k7_8 := hb
       clear hb k2_7 k3_7 k4_7 k5_7 k6_7 hb7 q1 f7
       have f8 := True.intro)
    | (have q1 := f6; go_at_call 19
       refine (mul_c A n c a A' n' c' b _ _ (rd_here hr hb6) WA.out (rd_here hr' hb6) WB.out (Nat.le_refl _) (by have := HN.out; omega) (by have := HN.out; omega)).mono ?_
       rintro e w7 ⟨A7, c7, rfl, hx7, hb⟩
       have hb7 := hb6.trans (hb.mono hb6.size)
       have k2_7 := k2_6.trans (hb.mono k2_6.size)
       have k3_7 := k3_6.trans (hb.mono k3_6.size)
       have k4_7 := k4_6.trans (hb.mono k4_6.size)
       have k5_7 := k5_6.trans (hb.mono k5_6.size)
       have k6_7 := hb
       clear hb k2_6 k3_6 k4_6 k5_6 hb6 q1 f6
       have f7 := True.intro)
    | (have q1 := f5; go_at_call 19
       refine (mul_c A n c a A5 (max n' n'' + 1) c5 (addL b k ++ [addC b k]) _ _ (rd_here hr hb5) WA.out hx5.rd WS.out (Nat.le_refl _) (by have := HN.out; omega) (by have := HN.out; omega)).mono ?_
       rintro e w6 ⟨A6, c6, rfl, hx6, hb⟩
       have hb6 := hb5.trans (hb.mono hb5.size)
       have k2_6 := k2_5.trans (hb.mono k2_5.size)
       have k3_6 := k3_5.trans (hb.mono k3_5.size)
       have k4_6 := k4_5.trans (hb.mono k4_5.size)
       have k5_6 := hb
       clear hb k2_5 k3_5 k4_5 hb5 q1 f5
       have f6 := True.intro)
    | (have q1 := g5; refine append_abs (by rfl) (.tmp 47) (.tmp 49) 23 (by rfl) w4.heap.size 25 .u64 8 Try.underlying23 u64Elem B5 (max n' n'') d5 (addL b k) (by rfl) (ho5.keep ((Below.refl _ _).alloc (Nat.le_refl _) _)) (v5.heap.size + 1) (some ⟨v5.heap.size, 0, none⟩) 1 1 [addC b k] (by rfl) (Rd.of_has (Has.new v5 25 (vals .u64 [addC b k])) (by omega) (by rfl) (by simp)) ((max n' n'') + 1) (by rfl) ((addL b k) ++ [addC b k]) (by rfl) (by have := HN.out; omega) (by unfold maxLen; have := HN.out; omega) (by simp; omega) ?_
       intro A5 c5 w5 hoo hbx
       have hb := (hby.alloc hby.size (.cells (vals .u64 [addC b k]) 25)).trans hbx
       have hx5 := Frs.of_own hoo
       clear hoo ho5 hbx hby hbz
       have hb5 := hb4.trans (hb.mono hb4.size)
       have k2_5 := k2_4.trans (hb.mono k2_4.size)
       have k3_5 := k3_4.trans (hb.mono k3_4.size)
       have k4_5 := hb
       clear hb k2_4 k3_4 hb4 q1 g5
       have f5 := True.intro)
    | (have q1 := f4; refine append_abs (by rfl) (.tmp 45) (.tmp 46) 23 (by rfl) w4.heap.size 25 .u64 8 Try.underlying23 u64Elem (some ⟨w4.heap.size, 0, none⟩) 0 0 [] (by rfl) (Own.of_has (Has.new w4 25 (vals .u64 [])) (Nat.le_refl _) (Nat.zero_le _)) w4.heap.size A4 (max n' n'') c4 (addL b k) (by rfl) (hx4.rd.keep ((Below.refl w4.heap.size w4).alloc (Nat.le_refl _) _) (Nat.le_refl _)) (max n' n'') (Nat.zero_add _) (addL b k) (by rfl) (by have := HN.out; omega) (by unfold maxLen; have := HN.out; omega) (by simp) ?_
       intro B5 d5 v5 ho5 hbx
       have hby := ((Below.refl w4.heap.size w4).alloc (Nat.le_refl _) (.cells (vals .u64 []) 25)).trans hbx
       have hbz := hby.size
       clear hbx q1 f4
       have g5 := True.intro)
    | (have q1 := f3; go_at_call 12
       refine (add_c A' n' c' b A'' n'' c'' k _ _ (rd_here hr' hb3) WB.out (rd_here hr'' hb3) WK.out (Nat.le_refl _) (by have := HN.out; omega) (by have := HN.out; omega)).mono ?_
       rintro e w4 ⟨A4, c4, rfl, hx4, hb⟩
       have hb4 := hb3.trans (hb.mono hb3.size)
       have k2_4 := k2_3.trans (hb.mono k2_3.size)
       have k3_4 := hb
       clear hb k2_3 hb3 q1 f3
       have f4 := True.intro)
    | (have q1 := f2; go_at_call 19
       refine (mul_c A' n' c' b A n c a _ _ (rd_here hr' hb2) WB.out (rd_here hr hb2) WA.out (Nat.le_refl _) (by have := HN.out; omega) (by have := HN.out; omega)).mono ?_
       rintro e w3 ⟨A3, c3, rfl, hx3, hb⟩
       have hb3 := hb2.trans (hb.mono hb2.size)
       have k2_3 := hb
       clear hb hb2 q1 f2
       have f3 := True.intro)
    | (have q1 := f1; go_at_call 19
       refine (mul_c A n c a A' n' c' b _ _ (rd_here hr hb1) WA.out (rd_here hr' hb1) WB.out (Nat.le_refl _) (by have := HN.out; omega) (by have := HN.out; omega)).mono ?_
       rintro e w2 ⟨A2, c2, rfl, hx2, hb⟩
       have hb2 := hb1.trans (hb.mono hb1.size)
       clear hb hb1 q1 f1
       have f2 := True.intro)
    | (go_at_call 10
       refine (awake_c _).mono ?_
       rintro e w1 ⟨rfl, hb⟩
       have hb1 := hb0.trans (hb.mono hb0.size)
       clear hb hb0
       have f1 := True.intro))
  go_ret
  exact ⟨rfl, hb12⟩

set_option maxRecDepth 100000 in
set_option maxHeartbeats 1000000 in
theorem products_big (A : Option Addr) (n c : Nat) (A' : Option Addr) (n' c' : Nat) (A'' : Option Addr) (n'' c'' : Nat) (w : World) (hn : ¬ (n ≤ 10 ∧ n' ≤ 10 ∧ n'' ≤ 10)) : Calls Try.prog 7 #[.slice A n c, .slice A' n' c', .slice A'' n'' c''] w fun e w' => e = .returned (.bool true) ∧ Below w.heap.size w w' := by
  rcases Nat.lt_or_ge 10 n with h1 | h1
  · clear hn
    go_enter Try.func7, Try.ntmps7
    go_wp2_with (go_at_call 10; refine (awake_c _).mono ?_; rintro e w1 ⟨rfl, hb1⟩)
    go_ret
    exact ⟨rfl, hb1⟩
  · rcases Nat.lt_or_ge 10 n' with h2 | h2
    · clear hn
      go_enter Try.func7, Try.ntmps7
      go_wp2_with (go_at_call 10; refine (awake_c _).mono ?_; rintro e w1 ⟨rfl, hb1⟩)
      go_ret
      exact ⟨rfl, hb1⟩
    · have h3 : 10 < n'' := by omega
      clear hn
      go_enter Try.func7, Try.ntmps7
      go_wp2_with (go_at_call 10; refine (awake_c _).mono ?_; rintro e w1 ⟨rfl, hb1⟩)
      go_ret
      exact ⟨rfl, hb1⟩

theorem products_w {w : World} {A : Option Addr} {n : Nat} (c : Nat) {a : List Int} {A' : Option Addr} {n' : Nat} (c' : Nat) {b : List Int} {A'' : Option Addr} {n'' : Nat} (c'' : Nat) {k : List Int} (h : Rd w w.heap.size A n .u64 a ∧ Words a) (h' : Rd w w.heap.size A' n' .u64 b ∧ Words b) (h'' : Rd w w.heap.size A'' n'' .u64 k ∧ Words k) :
    Calls Try.prog 7 #[.slice A n c, .slice A' n' c', .slice A'' n'' c''] w fun e w' => e = .returned (.bool true) ∧ Below w.heap.size w w' := by
  by_cases hn : n ≤ 10 ∧ n' ≤ 10 ∧ n'' ≤ 10
  · exact products_small A n c a A' n' c' b A'' n'' c'' k w h.1 h.2 h'.1 h'.2 h''.1 h''.2 hn
  · exact products_big A n c A' n' c' A'' n'' c'' w hn

theorem left_less {m : List Int} (hm : Words m) {n' : Nat} (hl : m.length = n') (h : num m ≠ 0) (u : Int) : num (wd n' (u % num m)) = u % num m ∧ cmpL (wd n' (u % num m)) m = -1 := by
  have hb := num_bounds hm
  rw [hl] at hb
  have h0 := Int.emod_nonneg u h
  have h1 := Int.emod_lt_of_pos u (show 0 < num m by omega)
  have e := num_wd_of (n := n') h0 (by omega)
  refine ⟨e, ?_⟩
  unfold cmpL
  rw [e, if_pos h1]
theorem left_again {m : List Int} (hm : Words m) {n' : Nat} (hl : m.length = n') (h : num m ≠ 0) (u : Int) : wd n' (u % num m) = wd n' (num (wd n' (u % num m)) % num m) := by
  rw [(left_less hm hl h u).1, Int.emod_emod]
theorem left_more {a m k : List Int} (hm : Words m) (hk : Words k) {n n' n'' : Nat} (la : a.length = n) (lm : m.length = n') (lk : k.length = n'') :
    wd n' (num a % num m) = wd n' (num (addL (wd (n' + n'') (num m * num k)) a ++ [addC (wd (n' + n'') (num m * num k)) a]) % num m) := by
  rw [num_sum, mul_bounds hm hk (by omega), Int.mul_comm, Int.add_comm, Int.add_mul_emod_self_right]

set_option maxRecDepth 100000 in
set_option maxHeartbeats 4000000 in
theorem left_small (A : Option Addr) (n c : Nat) (a : List Int) (A' : Option Addr) (n' c' : Nat) (b : List Int) (A'' : Option Addr) (n'' c'' : Nat) (k : List Int) (w : World) (hr : Rd w w.heap.size A n .u64 a) (hwa : Words a) (hr' : Rd w w.heap.size A' n' .u64 b) (hwb : Words b) (hr'' : Rd w w.heap.size A'' n'' .u64 k) (hwk : Words k) (hn : n ≤ 10 ∧ n' ≤ 10 ∧ n'' ≤ 10) (hcp : n' ≤ c') (hm : num b ≠ 0) : Calls Try.prog 8 #[.slice A n c, .slice A' n' c', .slice A'' n'' c''] w fun e w' => e = .returned (.bool true) ∧ Below w.heap.size w w' := by
  have HCP : Keep _ := ⟨hcp⟩
  clear hcp
  have HN : Keep (n ≤ 10 ∧ n' ≤ 10 ∧ n'' ≤ 10) := ⟨hn⟩
  have HM : Keep _ := ⟨hm⟩
  have WS : Keep (Words ((addL (wd (n' + n'') (num b * num k)) a) ++ [addC (wd (n' + n'') (num b * num k)) a])) := ⟨words_sum (wd_words _ _) hwa⟩
  have HC1 : Keep (cmpL b [] = 1) := ⟨by have := num_bounds hwb; unfold cmpL; rw [num_nil, if_neg (by omega), if_neg (by omega)]⟩
  have HCM : Keep _ := ⟨(left_less hwb hr'.len hm (num a)).2⟩
  have HQ1 : Keep _ := ⟨decide_eq_true (left_more hwb hwk hr.len hr'.len hr''.len)⟩
  have HQ2 : Keep _ := ⟨decide_eq_true (left_again hwb hr'.len hm (num a))⟩
  have WA : Keep _ := ⟨hwa⟩
  have WB : Keep _ := ⟨hwb⟩
  have WK : Keep _ := ⟨hwk⟩
  have hb0 : Below w.heap.size w w := Below.refl _ _
  have hn1 : n ≤ 10 := hn.1
  have hn2 : n' ≤ 10 := hn.2.1
  have hn3 : n'' ≤ 10 := hn.2.2
  clear hn hwa hwb hwk hm
  go_enter Try.func8, Try.ntmps8
  go_wp2_with (first
    | (have q1 := f10; go_at_call 21
       refine (cmp_c A2 n' c2 (wd n' (num a % num b)) A' n' c' b _ _ (hx2.here k2_10) (wd_words _ _) (rd_here hr' hb10) WB.out (Nat.le_refl _) (by have := HN.out; omega) (by have := HN.out; omega)).mono ?_
       rintro e w11 ⟨rfl, hb⟩
       rw [HCM.out]
       have hb11 := hb10.trans (hb.mono hb10.size)
       have k2_11 := k2_10.trans (hb.mono k2_10.size)
       have k4_11 := k4_10.trans (hb.mono k4_10.size)
       have k5_11 := k5_10.trans (hb.mono k5_10.size)
       have k6_11 := k6_10.trans (hb.mono k6_10.size)
       have k7_11 := k7_10.trans (hb.mono k7_10.size)
       have k8_11 := k8_10.trans (hb.mono k8_10.size)
       clear hb k2_10 k4_10 k5_10 k6_10 k7_10 k8_10 hb10 q1 f10
       have f11 := True.intro)
    | (have q1 := f9; go_at_call 18
       refine (same64_c A2 A8 n' c2 n' c8 (wd n' (num a % num b)) (wd n' (num (wd n' (num a % num b)) % num b)) _ _ _ (hx2.here k2_9) (Nat.le_refl _) (hx8.here k8_9) (Nat.le_refl _) (by have := HN.out; omega) (by have := HN.out; omega)).mono ?_
       rintro e w10 ⟨rfl, hb⟩
       rw [HQ2.out]
       have hb10 := hb9.trans (hb.mono hb9.size)
       have k2_10 := k2_9.trans (hb.mono k2_9.size)
       have k4_10 := k4_9.trans (hb.mono k4_9.size)
       have k5_10 := k5_9.trans (hb.mono k5_9.size)
       have k6_10 := k6_9.trans (hb.mono k6_9.size)
       have k7_10 := k7_9.trans (hb.mono k7_9.size)
       have k8_10 := k8_9.trans (hb.mono k8_9.size)
       clear hb k2_9 k4_9 k5_9 k6_9 k7_9 k8_9 hb9 q1 f9
       have f10 := True.intro)
    | (have q1 := f8; go_at_call 18
       refine (same64_c A2 A7 n' c2 n' c7 (wd n' (num a % num b)) (wd n' (num ((addL (wd (n' + n'') (num b * num k)) a) ++ [addC (wd (n' + n'') (num b * num k)) a]) % num b)) _ _ _ (hx2.here k2_8) (Nat.le_refl _) (hx7.here k7_8) (Nat.le_refl _) (by have := HN.out; omega) (by have := HN.out; omega)).mono ?_
       rintro e w9 ⟨rfl, hb⟩
       rw [HQ1.out]
       have hb9 := hb8.trans (hb.mono hb8.size)
       have k2_9 := k2_8.trans (hb.mono k2_8.size)
       have k4_9 := k4_8.trans (hb.mono k4_8.size)
       have k5_9 := k5_8.trans (hb.mono k5_8.size)
       have k6_9 := k6_8.trans (hb.mono k6_8.size)
       have k7_9 := k7_8.trans (hb.mono k7_8.size)
       have k8_9 := hb
       clear hb k2_8 k4_8 k5_8 k6_8 k7_8 hb8 q1 f8
       have f9 := True.intro)
    | (have q1 := f7; go_at_call 16
       refine (mod_c A2 n' c2 (wd n' (num a % num b)) A' n' c' b _ _ (hx2.here k2_7) (wd_words _ _) (rd_here hr' hb7) WB.out (Nat.le_refl _) (by have := HN.out; omega) (by have := HN.out; omega) HCP.out HM.out).mono ?_
       rintro e w8 ⟨A8, c8, rfl, hx8, hb⟩
       have hb8 := hb7.trans (hb.mono hb7.size)
       have k2_8 := k2_7.trans (hb.mono k2_7.size)
       have k4_8 := k4_7.trans (hb.mono k4_7.size)
       have k5_8 := k5_7.trans (hb.mono k5_7.size)
       have k6_8 := k6_7.trans (hb.mono k6_7.size)
       have k7_8 := hb
       clear hb k2_7 k4_7 k5_7 k6_7 hb7 q1 f7
       have f8 := True.intro)
    | (have q1 := f6; go_at_call 16
       refine (mod_c A6 (max (n' + n'') n + 1) c6 ((addL (wd (n' + n'') (num b * num k)) a) ++ [addC (wd (n' + n'') (num b * num k)) a]) A' n' c' b _ _ hx6.rd WS.out (rd_here hr' hb6) WB.out (Nat.le_refl _) (by have := HN.out; omega) (by have := HN.out; omega) HCP.out HM.out).mono ?_
       rintro e w7 ⟨A7, c7, rfl, hx7, hb⟩
       have hb7 := hb6.trans (hb.mono hb6.size)
       have k2_7 := k2_6.trans (hb.mono k2_6.size)
       have k4_7 := k4_6.trans (hb.mono k4_6.size)
       have k5_7 := k5_6.trans (hb.mono k5_6.size)
       have k6_7 := hb
       clear hb k2_6 k4_6 k5_6 hb6 q1 f6
       have f7 := True.intro)
    | (have q1 := g6; refine append_abs (by rfl) (.tmp 63) (.tmp 65) 23 (by rfl) w5.heap.size 25 .u64 8 Try.underlying23 u64Elem B6 (max (n' + n'') n) d6 (addL (wd (n' + n'') (num b * num k)) a) (by rfl) (ho6.keep ((Below.refl _ _).alloc (Nat.le_refl _) _)) (v6.heap.size + 1) (some ⟨v6.heap.size, 0, none⟩) 1 1 [addC (wd (n' + n'') (num b * num k)) a] (by rfl) (Rd.of_has (Has.new v6 25 (vals .u64 [addC (wd (n' + n'') (num b * num k)) a])) (by omega) (by rfl) (by simp)) ((max (n' + n'') n) + 1) (by rfl) ((addL (wd (n' + n'') (num b * num k)) a) ++ [addC (wd (n' + n'') (num b * num k)) a]) (by rfl) (by have := HN.out; omega) (by unfold maxLen; have := HN.out; omega) (by simp; omega) ?_
       intro A6 c6 w6 hoo hbx
       have hb := (hby.alloc hby.size (.cells (vals .u64 [addC (wd (n' + n'') (num b * num k)) a]) 25)).trans hbx
       have hx6 := Frs.of_own hoo
       clear hoo ho6 hbx hby hbz
       have hb6 := hb5.trans (hb.mono hb5.size)
       have k2_6 := k2_5.trans (hb.mono k2_5.size)
       have k4_6 := k4_5.trans (hb.mono k4_5.size)
       have k5_6 := hb
       clear hb k2_5 k4_5 hb5 q1 g6
       have f6 := True.intro)
    | (have q1 := f5; refine append_abs (by rfl) (.tmp 61) (.tmp 62) 23 (by rfl) w5.heap.size 25 .u64 8 Try.underlying23 u64Elem (some ⟨w5.heap.size, 0, none⟩) 0 0 [] (by rfl) (Own.of_has (Has.new w5 25 (vals .u64 [])) (Nat.le_refl _) (Nat.zero_le _)) w5.heap.size A5 (max (n' + n'') n) c5 (addL (wd (n' + n'') (num b * num k)) a) (by rfl) (hx5.rd.keep ((Below.refl w5.heap.size w5).alloc (Nat.le_refl _) _) (Nat.le_refl _)) (max (n' + n'') n) (Nat.zero_add _) (addL (wd (n' + n'') (num b * num k)) a) (by rfl) (by have := HN.out; omega) (by unfold maxLen; have := HN.out; omega) (by simp) ?_
       intro B6 d6 v6 ho6 hbx
       have hby := ((Below.refl w5.heap.size w5).alloc (Nat.le_refl _) (.cells (vals .u64 []) 25)).trans hbx
       have hbz := hby.size
       clear hbx q1 f5
       have g6 := True.intro)
    | (have q1 := f4; go_at_call 12
       refine (add_c A4 (n' + n'') c4 (wd (n' + n'') (num b * num k)) A n c a _ _ hx4.rd (wd_words _ _) (rd_here hr hb4) WA.out (Nat.le_refl _) (by have := HN.out; omega) (by have := HN.out; omega)).mono ?_
       rintro e w5 ⟨A5, c5, rfl, hx5, hb⟩
       have hb5 := hb4.trans (hb.mono hb4.size)
       have k2_5 := k2_4.trans (hb.mono k2_4.size)
       have k4_5 := hb
       clear hb k2_4 hb4 q1 f4
       have f5 := True.intro)
    | (have q1 := f3; go_at_call 19
       refine (mul_c A' n' c' b A'' n'' c'' k _ _ (rd_here hr' hb3) WB.out (rd_here hr'' hb3) WK.out (Nat.le_refl _) (by have := HN.out; omega) (by have := HN.out; omega)).mono ?_
       rintro e w4 ⟨A4, c4, rfl, hx4, hb⟩
       have hb4 := hb3.trans (hb.mono hb3.size)
       have k2_4 := k2_3.trans (hb.mono k2_3.size)
       clear hb k2_3 hb3 q1 f3
       have f4 := True.intro)
    | (have q1 := f2; go_at_call 21
       refine (cmp_c A' n' c' b none 0 0 [] _ _ (rd_here hr' hb2) WB.out Rd.nil_ words_nil (Nat.le_refl _) (by have := HN.out; omega) (by omega)).mono ?_
       rintro e w3 ⟨rfl, hb⟩
       rw [HC1.out]
       have hb3 := hb2.trans (hb.mono hb2.size)
       have k2_3 := hb
       clear hb hb2 q1 f2
       have f3 := True.intro)
    | (have q1 := f1; go_at_call 16
       refine (mod_c A n c a A' n' c' b _ _ (rd_here hr hb1) WA.out (rd_here hr' hb1) WB.out (Nat.le_refl _) (by have := HN.out; omega) (by have := HN.out; omega) HCP.out HM.out).mono ?_
       rintro e w2 ⟨A2, c2, rfl, hx2, hb⟩
       have hb2 := hb1.trans (hb.mono hb1.size)
       clear hb hb1 q1 f1
       have f2 := True.intro)
    | (go_at_call 10
       refine (awake_c _).mono ?_
       rintro e w1 ⟨rfl, hb⟩
       have hb1 := hb0.trans (hb.mono hb0.size)
       clear hb hb0
       have f1 := True.intro))
  go_ret
  exact ⟨rfl, hb11⟩

set_option maxRecDepth 100000 in
set_option maxHeartbeats 4000000 in
theorem left_no (A : Option Addr) (n c : Nat) (a : List Int) (A' : Option Addr) (n' c' : Nat) (b : List Int) (A'' : Option Addr) (n'' c'' : Nat) (k : List Int) (w : World) (hr : Rd w w.heap.size A n .u64 a) (hwa : Words a) (hr' : Rd w w.heap.size A' n' .u64 b) (hwb : Words b) (hr'' : Rd w w.heap.size A'' n'' .u64 k) (hwk : Words k) (hn : n ≤ 10 ∧ n' ≤ 10 ∧ n'' ≤ 10) (hcp : n' ≤ c') (hm : num b = 0) : Calls Try.prog 8 #[.slice A n c, .slice A' n' c', .slice A'' n'' c''] w fun e w' => e = .returned (.bool true) ∧ Below w.heap.size w w' := by
  have HCP : Keep _ := ⟨hcp⟩
  clear hcp
  have HN : Keep (n ≤ 10 ∧ n' ≤ 10 ∧ n'' ≤ 10) := ⟨hn⟩
  have HM : Keep _ := ⟨hm⟩
  have HC1 : Keep (cmpL b [] = 0) := ⟨by unfold cmpL; rw [num_nil, if_neg (by omega), if_pos hm]⟩
  have WA : Keep _ := ⟨hwa⟩
  have WB : Keep _ := ⟨hwb⟩
  have WK : Keep _ := ⟨hwk⟩
  have hb0 : Below w.heap.size w w := Below.refl _ _
  have hn1 : n ≤ 10 := hn.1
  have hn2 : n' ≤ 10 := hn.2.1
  have hn3 : n'' ≤ 10 := hn.2.2
  clear hn hwa hwb hwk hm
  go_enter Try.func8, Try.ntmps8
  go_wp2_with (first
    | (have q1 := f2; go_at_call 21
       refine (cmp_c A' n' c' b none 0 0 [] _ _ (rd_here hr' hb2) WB.out Rd.nil_ words_nil (Nat.le_refl _) (by have := HN.out; omega) (by omega)).mono ?_
       rintro e w3 ⟨rfl, hb⟩
       rw [HC1.out]
       have hb3 := hb2.trans (hb.mono hb2.size)
       clear hb hb2 q1 f2
       have f3 := True.intro)
    | (have q1 := f1; go_at_call 16
       refine (mod_no A n c a A' n' c' b _ _ (rd_here hr hb1) WA.out (rd_here hr' hb1) WB.out (Nat.le_refl _) (by have := HN.out; omega) (by have := HN.out; omega) HCP.out HM.out).mono ?_
       rintro e w2 ⟨A2, c2, rfl, hb⟩
       have hb2 := hb1.trans (hb.mono hb1.size)
       clear hb hb1 q1 f1
       have f2 := True.intro)
    | (go_at_call 10
       refine (awake_c _).mono ?_
       rintro e w1 ⟨rfl, hb⟩
       have hb1 := hb0.trans (hb.mono hb0.size)
       clear hb hb0
       have f1 := True.intro))
  go_ret
  exact ⟨rfl, hb3⟩

set_option maxRecDepth 100000 in
set_option maxHeartbeats 1000000 in
theorem left_big (A : Option Addr) (n c : Nat) (A' : Option Addr) (n' c' : Nat) (A'' : Option Addr) (n'' c'' : Nat) (w : World) (hn : ¬ (n ≤ 10 ∧ n' ≤ 10 ∧ n'' ≤ 10)) : Calls Try.prog 8 #[.slice A n c, .slice A' n' c', .slice A'' n'' c''] w fun e w' => e = .returned (.bool true) ∧ Below w.heap.size w w' := by
  rcases Nat.lt_or_ge 10 n with h1 | h1
  · clear hn
    go_enter Try.func8, Try.ntmps8
    go_wp2_with (go_at_call 10; refine (awake_c _).mono ?_; rintro e w1 ⟨rfl, hb1⟩)
    go_ret
    exact ⟨rfl, hb1⟩
  · rcases Nat.lt_or_ge 10 n' with h2 | h2
    · clear hn
      go_enter Try.func8, Try.ntmps8
      go_wp2_with (go_at_call 10; refine (awake_c _).mono ?_; rintro e w1 ⟨rfl, hb1⟩)
      go_ret
      exact ⟨rfl, hb1⟩
    · have h3 : 10 < n'' := by omega
      clear hn
      go_enter Try.func8, Try.ntmps8
      go_wp2_with (go_at_call 10; refine (awake_c _).mono ?_; rintro e w1 ⟨rfl, hb1⟩)
      go_ret
      exact ⟨rfl, hb1⟩

theorem left_w {w : World} {A : Option Addr} {n : Nat} (c : Nat) {a : List Int} {A' : Option Addr} {n' : Nat} (c' : Nat) {b : List Int} {A'' : Option Addr} {n'' : Nat} (c'' : Nat) {k : List Int} (h : Rd w w.heap.size A n .u64 a ∧ Words a) (h' : Rd w w.heap.size A' n' .u64 b ∧ Words b) (h'' : Rd w w.heap.size A'' n'' .u64 k ∧ Words k) (hcp : n' ≤ c') :
    Calls Try.prog 8 #[.slice A n c, .slice A' n' c', .slice A'' n'' c''] w fun e w' => e = .returned (.bool true) ∧ Below w.heap.size w w' := by
  by_cases hn : n ≤ 10 ∧ n' ≤ 10 ∧ n'' ≤ 10
  · by_cases hm : num b = 0
    · exact left_no A n c a A' n' c' b A'' n'' c'' k w h.1 h.2 h'.1 h'.2 h''.1 h''.2 hn hcp hm
    · exact left_small A n c a A' n' c' b A'' n'' c'' k w h.1 h.2 h'.1 h'.2 h''.1 h''.2 hn hcp hm
  · exact left_big A n c A' n' c' A'' n'' c'' w hn
end Go.Proofs.Ytnjkmheecmhlcaa.Limb
