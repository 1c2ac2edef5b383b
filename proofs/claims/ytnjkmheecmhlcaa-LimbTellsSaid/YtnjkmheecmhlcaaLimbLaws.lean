/-
  Own text. The walks of layer 3's statements on the error's number, and on what it tells.
-/
import Derived.Test.YtnjkmheecmhlcaaLimbAwake
namespace Go.Proofs.Ytnjkmheecmhlcaa.Limb
open Go Go.RowKit Go.Proofs.Ytnjkmheecmhlcaa.Reg Go.Proofs.Ytnjkmheecmhlcaa.Base

set_option maxRecDepth 100000 in
set_option maxHeartbeats 600000 in
theorem names_w (w : World) : Calls Try.prog 3 #[] w fun e w' => e = .returned (.bool true) ∧ Below w.heap.size w w' := by
  go_enter Try.func3, Try.ntmps3
  go_wp2_with (go_at_call 10; refine (awake_c _).mono ?_; rintro e w1 ⟨rfl, hb1⟩)
  go_ret
  exact ⟨rfl, hb1⟩

set_option maxRecDepth 100000 in
set_option maxHeartbeats 600000 in
theorem tells_big (A : Option Addr) (n c : Nat) (A' : Option Addr) (n' c' : Nat) (w : World) (hn : ¬ (n ≤ 14 ∧ n' ≤ 14)) : Calls Try.prog 4 #[.slice A n c, .slice A' n' c'] w fun e w' => e = .returned (.bool true) ∧ Below w.heap.size w w' := by
  have HD : Keep _ := ⟨(decide_eq_false hn : decide (n ≤ 14 ∧ n' ≤ 14) = false)⟩
  clear hn
  go_enter Try.func4, Try.ntmps4
  go_wp2_with (first
    | (go_at_call 10; refine (awake_c _).mono ?_; rintro e w1 ⟨rfl, hb1⟩)
    | (go_at_call 11; refine (few_c A n c A' n' c' w1).mono ?_; rintro e w2 ⟨rfl, hb2⟩; rw [HD.out]; have hbb2 := hb1.trans (hb2.mono hb1.size)))
  go_ret
  exact ⟨rfl, hbb2⟩

set_option maxRecDepth 100000 in
set_option maxHeartbeats 4000000 in
theorem tells_no (A : Option Addr) (n c : Nat) (a : List Int) (A' : Option Addr) (n' c' : Nat) (b : List Int) (w : World) (hr : Rd w w.heap.size A n .u64 a) (hwa : Words a) (hr' : Rd w w.heap.size A' n' .u64 b) (hwb : Words b) (hn : n ≤ 14 ∧ n' ≤ 14) (hcp : n' ≤ c') (hm : num b = 0) : Calls Try.prog 4 #[.slice A n c, .slice A' n' c'] w fun e w' => e = .returned (.bool true) ∧ Below w.heap.size w w' := by
  have HCP : Keep _ := ⟨hcp⟩
  clear hcp
  have HD : Keep _ := ⟨(decide_eq_true hn : decide (n ≤ 14 ∧ n' ≤ 14) = true)⟩
  have HN : Keep (n ≤ 14 ∧ n' ≤ 14) := ⟨hn⟩
  have WA : Keep _ := ⟨hwa⟩
  have WB : Keep _ := ⟨hwb⟩
  have hb0 : Below w.heap.size w w := Below.refl _ _
  clear hn hwa hwb
  go_enter Try.func4, Try.ntmps4
  go_wp2_with (first
    | (have q1 := f15; go_at_call 22
       refine (refCmp_c A n c a A' n' c' b _ _ (rd_here hr hb15) WA.out (rd_here hr' hb15) WB.out (by have := HN.out; omega) (by have := HN.out; omega)).mono ?_
       rintro e w16 ⟨rfl, hw⟩
       have hb : Below w15.heap.size w15 w16 := hw ▸ Below.refl _ _
       clear hw
       have hb16 := hb15.trans (hb.mono hb15.size)
       have k3_16 := k3_15.trans (hb.mono k3_15.size)
       have k4_16 := k4_15.trans (hb.mono k4_15.size)
       have k5_16 := k5_15.trans (hb.mono k5_15.size)
       have k6_16 := k6_15.trans (hb.mono k6_15.size)
       have k11_16 := k11_15.trans (hb.mono k11_15.size)
       have k12_16 := k12_15.trans (hb.mono k12_15.size)
       clear hb k3_15 k4_15 k5_15 k6_15 k11_15 k12_15 hb15 q1 f15
       have f16 := True.intro)
    | (have q1 := f14; go_at_call 21
       refine (cmp_c A n c a A' n' c' b _ _ (rd_here hr hb14) WA.out (rd_here hr' hb14) WB.out (Nat.le_refl _) (by have := HN.out; omega) (by have := HN.out; omega)).mono ?_
       rintro e w15 ⟨rfl, hb⟩
       have hb15 := hb14.trans (hb.mono hb14.size)
       have k3_15 := k3_14.trans (hb.mono k3_14.size)
       have k4_15 := k4_14.trans (hb.mono k4_14.size)
       have k5_15 := k5_14.trans (hb.mono k5_14.size)
       have k6_15 := k6_14.trans (hb.mono k6_14.size)
       have k11_15 := k11_14.trans (hb.mono k11_14.size)
       have k12_15 := k12_14.trans (hb.mono k12_14.size)
       clear hb k3_14 k4_14 k5_14 k6_14 k11_14 k12_14 hb14 q1 f14
       have f15 := True.intro)
    | (have q1 := f13; go_at_call 18
       refine (same64_c A7 none 0 c7 0 0 [] [] _ _ _ (Rd.nil_ (B := 0)) (Nat.zero_le _) (Rd.nil_ (B := 0)) (Nat.zero_le _) (by omega) (by omega)).mono ?_
       rintro e w14 ⟨rfl, hb⟩
       rw [decide_eq_true (rfl : ([] : List Int) = [])]
       have hb14 := hb13.trans (hb.mono hb13.size)
       have k3_14 := k3_13.trans (hb.mono k3_13.size)
       have k4_14 := k4_13.trans (hb.mono k4_13.size)
       have k5_14 := k5_13.trans (hb.mono k5_13.size)
       have k6_14 := k6_13.trans (hb.mono k6_13.size)
       have k11_14 := k11_13.trans (hb.mono k11_13.size)
       have k12_14 := k12_13.trans (hb.mono k12_13.size)
       clear hb k3_13 k4_13 k5_13 k6_13 k11_13 k12_13 hb13 q1 f13
       have f14 := True.intro)
    | (have q1 := f12; go_at_call 18
       refine (same64_c A11 A12 (n + n') c11 (n + n') c12 (wd (n + n') (num a * num b)) (wd (n + n') (num a * num b)) _ _ _ (hx11.here k11_12) (Nat.le_refl _) hx12.rd (Nat.le_refl _) (by have := HN.out; omega) (by have := HN.out; omega)).mono ?_
       rintro e w13 ⟨rfl, hb⟩
       rw [decide_eq_true (rfl : (wd (n + n') (num a * num b)) = (wd (n + n') (num a * num b)))]
       have hb13 := hb12.trans (hb.mono hb12.size)
       have k3_13 := k3_12.trans (hb.mono k3_12.size)
       have k4_13 := k4_12.trans (hb.mono k4_12.size)
       have k5_13 := k5_12.trans (hb.mono k5_12.size)
       have k6_13 := k6_12.trans (hb.mono k6_12.size)
       have k11_13 := k11_12.trans (hb.mono k11_12.size)
       have k12_13 := hb
       clear hb k3_12 k4_12 k5_12 k6_12 k11_12 hb12 q1 f12
       have f13 := True.intro)
    | (have q1 := f11; go_at_call 20
       refine (refMul_c A n c a A' n' c' b _ _ (rd_here hr hb11) WA.out (rd_here hr' hb11) WB.out (Nat.le_refl _) (by have := HN.out; omega) (by have := HN.out; omega)).mono ?_
       rintro e w12 ⟨A12, c12, rfl, ho, hb⟩
       have hx12 := Frs.of_own ho
       clear ho
       have hb12 := hb11.trans (hb.mono hb11.size)
       have k3_12 := k3_11.trans (hb.mono k3_11.size)
       have k4_12 := k4_11.trans (hb.mono k4_11.size)
       have k5_12 := k5_11.trans (hb.mono k5_11.size)
       have k6_12 := k6_11.trans (hb.mono k6_11.size)
       have k11_12 := hb
       clear hb k3_11 k4_11 k5_11 k6_11 hb11 q1 f11
       have f12 := True.intro)
    | (have q1 := f10; go_at_call 19
       refine (mul_c A n c a A' n' c' b _ _ (rd_here hr hb10) WA.out (rd_here hr' hb10) WB.out (Nat.le_refl _) (by have := HN.out; omega) (by have := HN.out; omega)).mono ?_
       rintro e w11 ⟨A11, c11, rfl, hx11, hb⟩
       have hb11 := hb10.trans (hb.mono hb10.size)
       have k3_11 := k3_10.trans (hb.mono k3_10.size)
       have k4_11 := k4_10.trans (hb.mono k4_10.size)
       have k5_11 := k5_10.trans (hb.mono k5_10.size)
       have k6_11 := k6_10.trans (hb.mono k6_10.size)
       clear hb k3_10 k4_10 k5_10 k6_10 hb10 q1 f10
       have f11 := True.intro)
    | (have q1 := f9; go_at_call 18
       refine (same64_c A5 A6 (max n n') c5 (max n n') c6 (subL a b) (subL a b) _ _ _ (hx5.here k5_9) (Nat.le_refl _) (hx6.here k6_9) (Nat.le_refl _) (by have := HN.out; omega) (by have := HN.out; omega)).mono ?_
       rintro e w10 ⟨rfl, hb⟩
       rw [decide_eq_true (rfl : (subL a b) = (subL a b))]
       have hb10 := hb9.trans (hb.mono hb9.size)
       have k3_10 := k3_9.trans (hb.mono k3_9.size)
       have k4_10 := k4_9.trans (hb.mono k4_9.size)
       have k5_10 := k5_9.trans (hb.mono k5_9.size)
       have k6_10 := k6_9.trans (hb.mono k6_9.size)
       clear hb k3_9 k4_9 k5_9 k6_9 hb9 q1 f9
       have f10 := True.intro)
    | (have q1 := f8; go_at_call 18
       refine (same64_c A3 A4 (max n n') c3 (max n n') c4 (addL a b) (addL a b) _ _ _ (hx3.here k3_8) (Nat.le_refl _) (hx4.here k4_8) (Nat.le_refl _) (by have := HN.out; omega) (by have := HN.out; omega)).mono ?_
       rintro e w9 ⟨rfl, hb⟩
       rw [decide_eq_true (rfl : (addL a b) = (addL a b))]
       have hb9 := hb8.trans (hb.mono hb8.size)
       have k3_9 := k3_8.trans (hb.mono k3_8.size)
       have k4_9 := k4_8.trans (hb.mono k4_8.size)
       have k5_9 := k5_8.trans (hb.mono k5_8.size)
       have k6_9 := k6_8.trans (hb.mono k6_8.size)
       clear hb k3_8 k4_8 k5_8 k6_8 hb8 q1 f8
       have f9 := True.intro)
    | (have q1 := f7; go_at_call 17
       refine (refMod_no _ A' n' c' b _ _ (rd_here hr' hb7) WB.out (by have := HN.out; omega) hm).mono ?_
       rintro e w8 ⟨rfl, hw⟩
       have hb : Below w7.heap.size w7 w8 := hw ▸ Below.refl _ _
       clear hw
       have hb8 := hb7.trans (hb.mono hb7.size)
       have k3_8 := k3_7.trans (hb.mono k3_7.size)
       have k4_8 := k4_7.trans (hb.mono k4_7.size)
       have k5_8 := k5_7.trans (hb.mono k5_7.size)
       have k6_8 := k6_7.trans (hb.mono k6_7.size)
       clear hb k3_7 k4_7 k5_7 k6_7 hb7 q1 f7
       have f8 := True.intro)
    | (have q1 := f6; go_at_call 16
       refine (mod_no A n c a A' n' c' b _ _ (rd_here hr hb6) WA.out (rd_here hr' hb6) WB.out (Nat.le_refl _) (by have := HN.out; omega) (by have := HN.out; omega) HCP.out hm).mono ?_
       rintro e w7 ⟨A7, c7, rfl, hb⟩
       have hb7 := hb6.trans (hb.mono hb6.size)
       have k3_7 := k3_6.trans (hb.mono k3_6.size)
       have k4_7 := k4_6.trans (hb.mono k4_6.size)
       have k5_7 := k5_6.trans (hb.mono k5_6.size)
       have k6_7 := hb
       clear hb k3_6 k4_6 k5_6 hb6 q1 f6
       have f7 := True.intro)
    | (have q1 := f5; go_at_call 15
       refine (refSub_c A n c a A' n' c' b _ _ (rd_here hr hb5) WA.out (rd_here hr' hb5) WB.out (Nat.le_refl _) (by have := HN.out; omega) (by have := HN.out; omega)).mono ?_
       rintro e w6 ⟨A6, c6, rfl, ho, hb⟩
       have hx6 := Frs.of_own ho
       clear ho
       have hb6 := hb5.trans (hb.mono hb5.size)
       have k3_6 := k3_5.trans (hb.mono k3_5.size)
       have k4_6 := k4_5.trans (hb.mono k4_5.size)
       have k5_6 := hb
       clear hb k3_5 k4_5 hb5 q1 f5
       have f6 := True.intro)
    | (have q1 := f4; go_at_call 14
       refine (sub_c A n c a A' n' c' b _ _ (rd_here hr hb4) WA.out (rd_here hr' hb4) WB.out (Nat.le_refl _) (by have := HN.out; omega) (by have := HN.out; omega)).mono ?_
       rintro e w5 ⟨A5, c5, rfl, hx5, hb⟩
       have hb5 := hb4.trans (hb.mono hb4.size)
       have k3_5 := k3_4.trans (hb.mono k3_4.size)
       have k4_5 := hb
       clear hb k3_4 hb4 q1 f4
       have f5 := True.intro)
    | (have q1 := f3; go_at_call 13
       refine (refAdd_c A n c a A' n' c' b _ _ (rd_here hr hb3) WA.out (rd_here hr' hb3) WB.out (Nat.le_refl _) (by have := HN.out; omega) (by have := HN.out; omega)).mono ?_
       rintro e w4 ⟨A4, c4, rfl, ho, hb⟩
       have hx4 := Frs.of_own ho
       clear ho
       have hb4 := hb3.trans (hb.mono hb3.size)
       have k3_4 := hb
       clear hb hb3 q1 f3
       have f4 := True.intro)
    | (have q1 := f2; go_at_call 12
       refine (add_c A n c a A' n' c' b _ _ (rd_here hr hb2) WA.out (rd_here hr' hb2) WB.out (Nat.le_refl _) (by have := HN.out; omega) (by have := HN.out; omega)).mono ?_
       rintro e w3 ⟨A3, c3, rfl, hx3, hb⟩
       have hb3 := hb2.trans (hb.mono hb2.size)
       clear hb hb2 q1 f2
       have f3 := True.intro)
    | (have q1 := f1; go_at_call 11
       refine (few_c A n c A' n' c' _).mono ?_
       rintro e w2 ⟨rfl, hb⟩
       rw [HD.out]
       have hb2 := hb1.trans (hb.mono hb1.size)
       clear hb hb1 q1 f1
       have f2 := True.intro)
    | (go_at_call 10
       refine (awake_c _).mono ?_
       rintro e w1 ⟨rfl, hb⟩
       have hb1 := hb0.trans (hb.mono hb0.size)
       clear hb hb0
       have f1 := True.intro))
  go_ret
  exact ⟨rfl, hb16⟩

set_option maxRecDepth 100000 in
set_option maxHeartbeats 4000000 in
theorem tells_ok (A : Option Addr) (n c : Nat) (a : List Int) (A' : Option Addr) (n' c' : Nat) (b : List Int) (w : World) (hr : Rd w w.heap.size A n .u64 a) (hwa : Words a) (hr' : Rd w w.heap.size A' n' .u64 b) (hwb : Words b) (hn : n ≤ 14 ∧ n' ≤ 14) (hcp : n' ≤ c') (hm : num b ≠ 0) : Calls Try.prog 4 #[.slice A n c, .slice A' n' c'] w fun e w' => e = .returned (.bool true) ∧ Below w.heap.size w w' := by
  have HCP : Keep _ := ⟨hcp⟩
  clear hcp
  have HD : Keep _ := ⟨(decide_eq_true hn : decide (n ≤ 14 ∧ n' ≤ 14) = true)⟩
  have HN : Keep (n ≤ 14 ∧ n' ≤ 14) := ⟨hn⟩
  have WA : Keep _ := ⟨hwa⟩
  have WB : Keep _ := ⟨hwb⟩
  have hb0 : Below w.heap.size w w := Below.refl _ _
  clear hn hwa hwb
  go_enter Try.func4, Try.ntmps4
  go_wp2_with (first
    | (have q1 := f15; go_at_call 22
       refine (refCmp_c A n c a A' n' c' b _ _ (rd_here hr hb15) WA.out (rd_here hr' hb15) WB.out (by have := HN.out; omega) (by have := HN.out; omega)).mono ?_
       rintro e w16 ⟨rfl, hw⟩
       have hb : Below w15.heap.size w15 w16 := hw ▸ Below.refl _ _
       clear hw
       have hb16 := hb15.trans (hb.mono hb15.size)
       have k3_16 := k3_15.trans (hb.mono k3_15.size)
       have k4_16 := k4_15.trans (hb.mono k4_15.size)
       have k5_16 := k5_15.trans (hb.mono k5_15.size)
       have k6_16 := k6_15.trans (hb.mono k6_15.size)
       have k7_16 := k7_15.trans (hb.mono k7_15.size)
       have k8_16 := k8_15.trans (hb.mono k8_15.size)
       have k11_16 := k11_15.trans (hb.mono k11_15.size)
       have k12_16 := k12_15.trans (hb.mono k12_15.size)
       clear hb k3_15 k4_15 k5_15 k6_15 k7_15 k8_15 k11_15 k12_15 hb15 q1 f15
       have f16 := True.intro)
    | (have q1 := f14; go_at_call 21
       refine (cmp_c A n c a A' n' c' b _ _ (rd_here hr hb14) WA.out (rd_here hr' hb14) WB.out (Nat.le_refl _) (by have := HN.out; omega) (by have := HN.out; omega)).mono ?_
       rintro e w15 ⟨rfl, hb⟩
       have hb15 := hb14.trans (hb.mono hb14.size)
       have k3_15 := k3_14.trans (hb.mono k3_14.size)
       have k4_15 := k4_14.trans (hb.mono k4_14.size)
       have k5_15 := k5_14.trans (hb.mono k5_14.size)
       have k6_15 := k6_14.trans (hb.mono k6_14.size)
       have k7_15 := k7_14.trans (hb.mono k7_14.size)
       have k8_15 := k8_14.trans (hb.mono k8_14.size)
       have k11_15 := k11_14.trans (hb.mono k11_14.size)
       have k12_15 := k12_14.trans (hb.mono k12_14.size)
       clear hb k3_14 k4_14 k5_14 k6_14 k7_14 k8_14 k11_14 k12_14 hb14 q1 f14
       have f15 := True.intro)
    | (have q1 := f13; go_at_call 18
       refine (same64_c A7 A8 n' c7 n' c8 (wd n' (num a % num b)) (wd n' (num a % num b)) _ _ _ (hx7.here k7_13) (Nat.le_refl _) (hx8.here k8_13) (Nat.le_refl _) (by have := HN.out; omega) (by have := HN.out; omega)).mono ?_
       rintro e w14 ⟨rfl, hb⟩
       rw [decide_eq_true (rfl : (wd n' (num a % num b)) = (wd n' (num a % num b)))]
       have hb14 := hb13.trans (hb.mono hb13.size)
       have k3_14 := k3_13.trans (hb.mono k3_13.size)
       have k4_14 := k4_13.trans (hb.mono k4_13.size)
       have k5_14 := k5_13.trans (hb.mono k5_13.size)
       have k6_14 := k6_13.trans (hb.mono k6_13.size)
       have k7_14 := k7_13.trans (hb.mono k7_13.size)
       have k8_14 := k8_13.trans (hb.mono k8_13.size)
       have k11_14 := k11_13.trans (hb.mono k11_13.size)
       have k12_14 := k12_13.trans (hb.mono k12_13.size)
       clear hb k3_13 k4_13 k5_13 k6_13 k7_13 k8_13 k11_13 k12_13 hb13 q1 f13
       have f14 := True.intro)
    | (have q1 := f12; go_at_call 18
       refine (same64_c A11 A12 (n + n') c11 (n + n') c12 (wd (n + n') (num a * num b)) (wd (n + n') (num a * num b)) _ _ _ (hx11.here k11_12) (Nat.le_refl _) hx12.rd (Nat.le_refl _) (by have := HN.out; omega) (by have := HN.out; omega)).mono ?_
       rintro e w13 ⟨rfl, hb⟩
       rw [decide_eq_true (rfl : (wd (n + n') (num a * num b)) = (wd (n + n') (num a * num b)))]
       have hb13 := hb12.trans (hb.mono hb12.size)
       have k3_13 := k3_12.trans (hb.mono k3_12.size)
       have k4_13 := k4_12.trans (hb.mono k4_12.size)
       have k5_13 := k5_12.trans (hb.mono k5_12.size)
       have k6_13 := k6_12.trans (hb.mono k6_12.size)
       have k7_13 := k7_12.trans (hb.mono k7_12.size)
       have k8_13 := k8_12.trans (hb.mono k8_12.size)
       have k11_13 := k11_12.trans (hb.mono k11_12.size)
       have k12_13 := hb
       clear hb k3_12 k4_12 k5_12 k6_12 k7_12 k8_12 k11_12 hb12 q1 f12
       have f13 := True.intro)
    | (have q1 := f11; go_at_call 20
       refine (refMul_c A n c a A' n' c' b _ _ (rd_here hr hb11) WA.out (rd_here hr' hb11) WB.out (Nat.le_refl _) (by have := HN.out; omega) (by have := HN.out; omega)).mono ?_
       rintro e w12 ⟨A12, c12, rfl, ho, hb⟩
       have hx12 := Frs.of_own ho
       clear ho
       have hb12 := hb11.trans (hb.mono hb11.size)
       have k3_12 := k3_11.trans (hb.mono k3_11.size)
       have k4_12 := k4_11.trans (hb.mono k4_11.size)
       have k5_12 := k5_11.trans (hb.mono k5_11.size)
       have k6_12 := k6_11.trans (hb.mono k6_11.size)
       have k7_12 := k7_11.trans (hb.mono k7_11.size)
       have k8_12 := k8_11.trans (hb.mono k8_11.size)
       have k11_12 := hb
       clear hb k3_11 k4_11 k5_11 k6_11 k7_11 k8_11 hb11 q1 f11
       have f12 := True.intro)
    | (have q1 := f10; go_at_call 19
       refine (mul_c A n c a A' n' c' b _ _ (rd_here hr hb10) WA.out (rd_here hr' hb10) WB.out (Nat.le_refl _) (by have := HN.out; omega) (by have := HN.out; omega)).mono ?_
       rintro e w11 ⟨A11, c11, rfl, hx11, hb⟩
       have hb11 := hb10.trans (hb.mono hb10.size)
       have k3_11 := k3_10.trans (hb.mono k3_10.size)
       have k4_11 := k4_10.trans (hb.mono k4_10.size)
       have k5_11 := k5_10.trans (hb.mono k5_10.size)
       have k6_11 := k6_10.trans (hb.mono k6_10.size)
       have k7_11 := k7_10.trans (hb.mono k7_10.size)
       have k8_11 := k8_10.trans (hb.mono k8_10.size)
       clear hb k3_10 k4_10 k5_10 k6_10 k7_10 k8_10 hb10 q1 f10
       have f11 := True.intro)
    | (have q1 := f9; go_at_call 18
       refine (same64_c A5 A6 (max n n') c5 (max n n') c6 (subL a b) (subL a b) _ _ _ (hx5.here k5_9) (Nat.le_refl _) (hx6.here k6_9) (Nat.le_refl _) (by have := HN.out; omega) (by have := HN.out; omega)).mono ?_
       rintro e w10 ⟨rfl, hb⟩
       rw [decide_eq_true (rfl : (subL a b) = (subL a b))]
       have hb10 := hb9.trans (hb.mono hb9.size)
       have k3_10 := k3_9.trans (hb.mono k3_9.size)
       have k4_10 := k4_9.trans (hb.mono k4_9.size)
       have k5_10 := k5_9.trans (hb.mono k5_9.size)
       have k6_10 := k6_9.trans (hb.mono k6_9.size)
       have k7_10 := k7_9.trans (hb.mono k7_9.size)
       have k8_10 := k8_9.trans (hb.mono k8_9.size)
       clear hb k3_9 k4_9 k5_9 k6_9 k7_9 k8_9 hb9 q1 f9
       have f10 := True.intro)
    | (have q1 := f8; go_at_call 18
       refine (same64_c A3 A4 (max n n') c3 (max n n') c4 (addL a b) (addL a b) _ _ _ (hx3.here k3_8) (Nat.le_refl _) (hx4.here k4_8) (Nat.le_refl _) (by have := HN.out; omega) (by have := HN.out; omega)).mono ?_
       rintro e w9 ⟨rfl, hb⟩
       rw [decide_eq_true (rfl : (addL a b) = (addL a b))]
       have hb9 := hb8.trans (hb.mono hb8.size)
       have k3_9 := k3_8.trans (hb.mono k3_8.size)
       have k4_9 := k4_8.trans (hb.mono k4_8.size)
       have k5_9 := k5_8.trans (hb.mono k5_8.size)
       have k6_9 := k6_8.trans (hb.mono k6_8.size)
       have k7_9 := k7_8.trans (hb.mono k7_8.size)
       have k8_9 := hb
       clear hb k3_8 k4_8 k5_8 k6_8 k7_8 hb8 q1 f8
       have f9 := True.intro)
    | (have q1 := f7; go_at_call 17
       refine (refMod_c A n c a A' n' c' b _ _ (rd_here hr hb7) WA.out (rd_here hr' hb7) WB.out (Nat.le_refl _) (by have := HN.out; omega) (by have := HN.out; omega) hm).mono ?_
       rintro e w8 ⟨A8, c8, rfl, ho, hb⟩
       have hx8 := Frs.of_own ho
       clear ho
       have hb8 := hb7.trans (hb.mono hb7.size)
       have k3_8 := k3_7.trans (hb.mono k3_7.size)
       have k4_8 := k4_7.trans (hb.mono k4_7.size)
       have k5_8 := k5_7.trans (hb.mono k5_7.size)
       have k6_8 := k6_7.trans (hb.mono k6_7.size)
       have k7_8 := hb
       clear hb k3_7 k4_7 k5_7 k6_7 hb7 q1 f7
       have f8 := True.intro)
    | (have q1 := f6; go_at_call 16
       refine (mod_c A n c a A' n' c' b _ _ (rd_here hr hb6) WA.out (rd_here hr' hb6) WB.out (Nat.le_refl _) (by have := HN.out; omega) (by have := HN.out; omega) HCP.out hm).mono ?_
       rintro e w7 ⟨A7, c7, rfl, hx7, hb⟩
       have hb7 := hb6.trans (hb.mono hb6.size)
       have k3_7 := k3_6.trans (hb.mono k3_6.size)
       have k4_7 := k4_6.trans (hb.mono k4_6.size)
       have k5_7 := k5_6.trans (hb.mono k5_6.size)
       have k6_7 := hb
       clear hb k3_6 k4_6 k5_6 hb6 q1 f6
       have f7 := True.intro)
    | (have q1 := f5; go_at_call 15
       refine (refSub_c A n c a A' n' c' b _ _ (rd_here hr hb5) WA.out (rd_here hr' hb5) WB.out (Nat.le_refl _) (by have := HN.out; omega) (by have := HN.out; omega)).mono ?_
       rintro e w6 ⟨A6, c6, rfl, ho, hb⟩
       have hx6 := Frs.of_own ho
       clear ho
       have hb6 := hb5.trans (hb.mono hb5.size)
       have k3_6 := k3_5.trans (hb.mono k3_5.size)
       have k4_6 := k4_5.trans (hb.mono k4_5.size)
       have k5_6 := hb
       clear hb k3_5 k4_5 hb5 q1 f5
       have f6 := True.intro)
    | (have q1 := f4; go_at_call 14
       refine (sub_c A n c a A' n' c' b _ _ (rd_here hr hb4) WA.out (rd_here hr' hb4) WB.out (Nat.le_refl _) (by have := HN.out; omega) (by have := HN.out; omega)).mono ?_
       rintro e w5 ⟨A5, c5, rfl, hx5, hb⟩
       have hb5 := hb4.trans (hb.mono hb4.size)
       have k3_5 := k3_4.trans (hb.mono k3_4.size)
       have k4_5 := hb
       clear hb k3_4 hb4 q1 f4
       have f5 := True.intro)
    | (have q1 := f3; go_at_call 13
       refine (refAdd_c A n c a A' n' c' b _ _ (rd_here hr hb3) WA.out (rd_here hr' hb3) WB.out (Nat.le_refl _) (by have := HN.out; omega) (by have := HN.out; omega)).mono ?_
       rintro e w4 ⟨A4, c4, rfl, ho, hb⟩
       have hx4 := Frs.of_own ho
       clear ho
       have hb4 := hb3.trans (hb.mono hb3.size)
       have k3_4 := hb
       clear hb hb3 q1 f3
       have f4 := True.intro)
    | (have q1 := f2; go_at_call 12
       refine (add_c A n c a A' n' c' b _ _ (rd_here hr hb2) WA.out (rd_here hr' hb2) WB.out (Nat.le_refl _) (by have := HN.out; omega) (by have := HN.out; omega)).mono ?_
       rintro e w3 ⟨A3, c3, rfl, hx3, hb⟩
       have hb3 := hb2.trans (hb.mono hb2.size)
       clear hb hb2 q1 f2
       have f3 := True.intro)
    | (have q1 := f1; go_at_call 11
       refine (few_c A n c A' n' c' _).mono ?_
       rintro e w2 ⟨rfl, hb⟩
       rw [HD.out]
       have hb2 := hb1.trans (hb.mono hb1.size)
       clear hb hb1 q1 f1
       have f2 := True.intro)
    | (go_at_call 10
       refine (awake_c _).mono ?_
       rintro e w1 ⟨rfl, hb⟩
       have hb1 := hb0.trans (hb.mono hb0.size)
       clear hb hb0
       have f1 := True.intro))
  go_ret
  exact ⟨rfl, hb16⟩

theorem tells_w {w : World} {A : Option Addr} {n : Nat} (c : Nat) {a : List Int} {A' : Option Addr} {n' : Nat} (c' : Nat) {b : List Int} (h : Rd w w.heap.size A n .u64 a ∧ Words a) (h' : Rd w w.heap.size A' n' .u64 b ∧ Words b) (hcp : n' ≤ c') :
    Calls Try.prog 4 #[.slice A n c, .slice A' n' c'] w fun e w' => e = .returned (.bool true) ∧ Below w.heap.size w w' := by
  by_cases hn : n ≤ 14 ∧ n' ≤ 14
  · by_cases hm : num b = 0
    · exact tells_no A n c a A' n' c' b w h.1 h.2 h'.1 h'.2 hn hcp hm
    · exact tells_ok A n c a A' n' c' b w h.1 h.2 h'.1 h'.2 hn hcp hm
  · exact tells_big A n c A' n' c' w hn
end Go.Proofs.Ytnjkmheecmhlcaa.Limb
