/-
  Own text. The walk of the statement that tells what keyed sums and bytes made of a key are.
-/
import Derived.Test.YtkjbfkhiijnemaaHkAwake
import Derived.OpenShut
namespace Go.Proofs.Ytkjbfkhiijnemaa.Hk
open Go Go.RowKit Go.Proofs.Ytkjbfkhiijnemaa.Reg Go.Proofs.Ytkjbfkhiijnemaa.Sha

set_option maxRecDepth 100000 in
set_option maxHeartbeats 600000 in
theorem tells_big (A : Option Addr) (n c : Nat) (A' : Option Addr) (n' c' : Nat) (m : Int) (w : World) (hn : ¬ (n ≤ 500 ∧ n' ≤ 500)) : Calls Try.prog 4 #[.slice A n c, .slice A' n' c', .int .i64 m] w fun e w' => e = .returned (.bool true) ∧ Below w.heap.size w w' := by
  have hd : decide (n ≤ 500 ∧ n' ≤ 500) = false := decide_eq_false hn
  have HD : Keep _ := ⟨hd⟩
  clear hd hn
  go_enter Try.func4, Try.ntmps4
  go_wp2_with (first
    | (go_at_call 8; refine (awake_c _).mono ?_; rintro e w1 ⟨rfl, hb1⟩)
    | (go_at_call 9; refine (few_c A n c A' n' c' w1).mono ?_; rintro e w2 ⟨rfl, hb2⟩; rw [HD.out]; have hbb2 := hb1.trans (hb2.mono hb1.size)))
  go_ret
  exact ⟨rfl, hbb2⟩

set_option maxRecDepth 100000 in
set_option maxHeartbeats 1000000 in
theorem tells_no (A : Option Addr) (n c : Nat) (key : List Int) (A' : Option Addr) (n' c' : Nat) (b : List Int) (m : Int) (w : World) (hr : Rd w w.heap.size A n .u8 key) (hby : Bytes key) (hr' : Rd w w.heap.size A' n' .u8 b) (hby' : Bytes b) (hn : n ≤ 500 ∧ n' ≤ 500) (hm : m < 0 ∨ 8160 < m) :
    Calls Try.prog 4 #[.slice A n c, .slice A' n' c', .int .i64 m] w fun e w' => e = .returned (.bool true) ∧ Below w.heap.size w w' := by
  have hd : decide (n ≤ 500 ∧ n' ≤ 500) = true := decide_eq_true hn
  have HD : Keep _ := ⟨hd⟩
  have HM : Keep _ := ⟨hm⟩
  have HN : Keep (n ≤ 100000 ∧ n' ≤ 100000) := ⟨by omega⟩
  have BY : Keep _ := ⟨hby⟩
  have BY' : Keep _ := ⟨hby'⟩
  obtain ⟨s, hs⟩ : ∃ s, macL key b = s := ⟨_, rfl⟩
  have hsl : s.length = 32 := by rw [← hs]; exact macL_len _ _
  have HS : Keep _ := ⟨hs⟩
  have heq : ∀ w : World, (Op.equalIn 10000 29 (.agg (vals .u8 s)) (.agg (vals .u8 s))).run Try.prog w = .ok true w := fun w => by
    rw [equalIn_vals (d := 9998) Try.underlying29 Try.underlying5 (by kernel_rfl) (by kernel_rfl) hsl hsl]
    simp
  have hgd : Try.prog.eqGuardType Try.prog.depth 29 = false := by kernel_rfl
  clear hd hn hm hby hby' hs hsl
  go_enter Try.func4, Try.ntmps4
  go_wp2_with (first
    | (go_at_call 8; refine (awake_c _).mono ?_; rintro e w1 ⟨rfl, hb1⟩)
    | (go_at_call 9; refine (few_c A n c A' n' c' w1).mono ?_; rintro e w2 ⟨rfl, hb2⟩; rw [HD.out]; have hbb2 := hb1.trans (hb2.mono hb1.size); clear hb1 hb2)
    | (go_at_call 10
       refine (expand_no A n c A' n' c' m w2 HM.out).mono ?_
       rintro e w3 ⟨rfl, hb3⟩
       have hbb3 := hbb2.trans (hb3.mono hbb2.size)
       clear hbb2 hb3)
    | (go_at_call 11
       refine (refExpand_no _ _ m w3 HM.out).mono ?_
       rintro e w4 ⟨rfl, hb4⟩
       have hbb4 := hbb3.trans (hb4.mono hbb3.size)
       clear hbb3 hb4)
    | (go_at_call 12
       refine (same_c none none 0 0 0 0 [] [] 0 0 w4 Rd.nil_ (Nat.zero_le _) Rd.nil_ (Nat.zero_le _) (by omega) (by omega)).mono ?_
       rintro e w5 ⟨rfl, hb5⟩
       rw [decide_eq_true (rfl : ([] : List Int) = [])]
       have hbb5 := hbb4.trans (hb5.mono hbb4.size)
       have hr5 := hr.keep hbb5 (Nat.le_refl _)
       have hs5 := hr'.keep hbb5 (Nat.le_refl _)
       clear hbb4 hb5)
    | (go_at_call 13
       refine (mac_c A n c key A' n' c' b w.heap.size w5 hr5 BY.out hs5 BY'.out hbb5.size HN.out.1 HN.out.2).mono ?_
       rintro e w6 ⟨rfl, hb6⟩
       rw [HS.out]
       have hr6 := hr5.keep hb6 hbb5.size
       have hs6 := hs5.keep hb6 hbb5.size
       have hbb6 := hbb5.trans (hb6.mono hbb5.size)
       clear hbb5 hb6 hr5 hs5)
    | (go_at_call 14
       refine (refMac_c A n c key A' n' c' b w.heap.size w8 hr8 BY.out hs8 BY'.out hbb8.size HN.out.1 HN.out.2).mono ?_
       rintro e w9 ⟨rfl, hb9⟩
       rw [HS.out]
       have hbb9 := hbb8.trans (hb9.mono hbb8.size)
       clear hbb8 hb9 hr8 hs8)
    | (go_at_call 14
       refine (refMac_c A n c key A' n' c' b w.heap.size w6 hr6 BY.out hs6 BY'.out hbb6.size HN.out.1 HN.out.2).mono ?_
       rintro e w7 ⟨rfl, hb7⟩
       rw [HS.out]
       have hr7 := hr6.keep hb7 hbb6.size
       have hs7 := hs6.keep hb7 hbb6.size
       have hbb7 := hbb6.trans (hb7.mono hbb6.size)
       clear hbb6 hb7 hr6 hs6)
    | (go_at_call 15
       refine (extract_c A n c key A' n' c' b w.heap.size w7 hr7 BY.out hs7 BY'.out hbb7.size HN.out.1 HN.out.2).mono ?_
       rintro e w8 ⟨rfl, hb8⟩
       rw [HS.out]
       have hr8 := hr7.keep hb8 hbb7.size
       have hs8 := hs7.keep hb8 hbb7.size
       have hbb8 := hbb7.trans (hb8.mono hbb7.size)
       clear hbb7 hb8 hr7 hs7))
  go_ret
  exact ⟨rfl, hbb9⟩
set_option maxRecDepth 100000 in
set_option maxHeartbeats 1000000 in
theorem tells_yes (A : Option Addr) (n c : Nat) (key : List Int) (A' : Option Addr) (n' c' : Nat) (b : List Int) (m : Nat) (w : World) (hr : Rd w w.heap.size A n .u8 key) (hby : Bytes key) (hr' : Rd w w.heap.size A' n' .u8 b) (hby' : Bytes b) (hn : n ≤ 500 ∧ n' ≤ 500) (hm : m ≤ 8160) :
    Calls Try.prog 4 #[.slice A n c, .slice A' n' c', .int .i64 (m : Int)] w fun e w' => e = .returned (.bool true) ∧ Below w.heap.size w w' := by
  have hd : decide (n ≤ 500 ∧ n' ≤ 500) = true := decide_eq_true hn
  have HD : Keep _ := ⟨hd⟩
  have HN : Keep (n ≤ 100000 ∧ n' ≤ 100000) := ⟨by omega⟩
  have HM : Keep (n ≤ 1000 ∧ n' ≤ 1000 ∧ m ≤ 8160) := ⟨by omega⟩
  obtain ⟨x, hx⟩ : ∃ x, expandL key b m = x := ⟨_, rfl⟩
  have HX : Keep _ := ⟨hx⟩
  have BY : Keep _ := ⟨hby⟩
  have BY' : Keep _ := ⟨hby'⟩
  obtain ⟨s, hs⟩ : ∃ s, macL key b = s := ⟨_, rfl⟩
  have hsl : s.length = 32 := by rw [← hs]; exact macL_len _ _
  have HS : Keep _ := ⟨hs⟩
  have heq : ∀ w : World, (Op.equalIn 10000 29 (.agg (vals .u8 s)) (.agg (vals .u8 s))).run Try.prog w = .ok true w := fun w => by
    rw [equalIn_vals (d := 9998) Try.underlying29 Try.underlying5 (by kernel_rfl) (by kernel_rfl) hsl hsl]
    simp
  have hgd : Try.prog.eqGuardType Try.prog.depth 29 = false := by kernel_rfl
  clear hd hn hx hby hby' hs hsl
  go_enter Try.func4, Try.ntmps4
  go_wp2_with (first
    | (go_at_call 8; refine (awake_c _).mono ?_; rintro e w1 ⟨rfl, hb1⟩)
    | (go_at_call 9; refine (few_c A n c A' n' c' w1).mono ?_; rintro e w2 ⟨rfl, hb2⟩; rw [HD.out]; have hbb2 := hb1.trans (hb2.mono hb1.size); clear hb1 hb2)
    | (go_at_call 10
       refine (expand_c A n c key A' n' c' b m w.heap.size w2 (hr.keep hbb2 (Nat.le_refl _)) BY.out (hr'.keep hbb2 (Nat.le_refl _)) BY'.out hbb2.size HM.out.1 HM.out.2.1 HM.out.2.2).mono ?_
       rintro e w3 ⟨A3, c3, rfl, hx3, _, hb3⟩
       rw [HX.out] at hx3
       have hbb3 := hbb2.trans (hb3.mono hbb2.size)
       clear hbb2 hb3)
    | (go_at_call 11
       refine (refExpand_c A n c key A' n' c' b m w.heap.size w3 (hr.keep hbb3 (Nat.le_refl _)) BY.out (hr'.keep hbb3 (Nat.le_refl _)) BY'.out hbb3.size HM.out.1 HM.out.2.1 HM.out.2.2).mono ?_
       rintro e w4 ⟨A4, c4, rfl, hx4, _, hb4⟩
       rw [HX.out] at hx4
       have hx3' := (hx3.keep hb4 (Nat.le_refl _)).more hb4.size
       have hbb4 := hbb3.trans (hb4.mono hbb3.size)
       clear hbb3 hb4 hx3)
    | (go_at_call 12
       refine (same_c A3 A4 m c3 m c4 x x w4.heap.size w4.heap.size w4 hx3' (Nat.le_refl _) hx4 (Nat.le_refl _) (by omega) (by omega)).mono ?_
       rintro e w5 ⟨rfl, hb5⟩
       rw [decide_eq_true (rfl : x = x)]
       have hbb5 := hbb4.trans (hb5.mono hbb4.size)
       have hr5 := hr.keep hbb5 (Nat.le_refl _)
       have hs5 := hr'.keep hbb5 (Nat.le_refl _)
       clear hbb4 hb5 hx3' hx4)
    | (go_at_call 13
       refine (mac_c A n c key A' n' c' b w.heap.size w5 hr5 BY.out hs5 BY'.out hbb5.size HN.out.1 HN.out.2).mono ?_
       rintro e w6 ⟨rfl, hb6⟩
       rw [HS.out]
       have hr6 := hr5.keep hb6 hbb5.size
       have hs6 := hs5.keep hb6 hbb5.size
       have hbb6 := hbb5.trans (hb6.mono hbb5.size)
       clear hbb5 hb6 hr5 hs5)
    | (go_at_call 14
       refine (refMac_c A n c key A' n' c' b w.heap.size w8 hr8 BY.out hs8 BY'.out hbb8.size HN.out.1 HN.out.2).mono ?_
       rintro e w9 ⟨rfl, hb9⟩
       rw [HS.out]
       have hbb9 := hbb8.trans (hb9.mono hbb8.size)
       clear hbb8 hb9 hr8 hs8)
    | (go_at_call 14
       refine (refMac_c A n c key A' n' c' b w.heap.size w6 hr6 BY.out hs6 BY'.out hbb6.size HN.out.1 HN.out.2).mono ?_
       rintro e w7 ⟨rfl, hb7⟩
       rw [HS.out]
       have hr7 := hr6.keep hb7 hbb6.size
       have hs7 := hs6.keep hb7 hbb6.size
       have hbb7 := hbb6.trans (hb7.mono hbb6.size)
       clear hbb6 hb7 hr6 hs6)
    | (go_at_call 15
       refine (extract_c A n c key A' n' c' b w.heap.size w7 hr7 BY.out hs7 BY'.out hbb7.size HN.out.1 HN.out.2).mono ?_
       rintro e w8 ⟨rfl, hb8⟩
       rw [HS.out]
       have hr8 := hr7.keep hb8 hbb7.size
       have hs8 := hs7.keep hb8 hbb7.size
       have hbb8 := hbb7.trans (hb8.mono hbb7.size)
       clear hbb7 hb8 hr7 hs7))
  go_ret
  exact ⟨rfl, hbb9⟩
theorem tells_w {w : World} {A : Option Addr} {n : Nat} (c : Nat) {key : List Int} {A' : Option Addr} {n' : Nat} (c' : Nat) {b : List Int} (m : Int) (h : Rd w w.heap.size A n .u8 key ∧ Bytes key) (h' : Rd w w.heap.size A' n' .u8 b ∧ Bytes b) :
    Calls Try.prog 4 #[.slice A n c, .slice A' n' c', .int .i64 m] w fun e w' => e = .returned (.bool true) ∧ Below w.heap.size w w' := by
  by_cases hn : n ≤ 500 ∧ n' ≤ 500
  · by_cases hm : m < 0 ∨ 8160 < m
    · exact tells_no A n c key A' n' c' b m w h.1 h.2 h'.1 h'.2 hn hm
    · obtain ⟨k, rfl⟩ : ∃ k : Nat, m = k := ⟨m.toNat, by omega⟩
      exact tells_yes A n c key A' n' c' b k w h.1 h.2 h'.1 h'.2 hn (by omega)
  · exact tells_big A n c A' n' c' m w hn
end Go.Proofs.Ytkjbfkhiijnemaa.Hk
