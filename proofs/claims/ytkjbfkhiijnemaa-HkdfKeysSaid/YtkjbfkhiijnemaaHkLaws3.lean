/-
  Own text. The walks of the statements on the error's number and on long keys (a key of more than 64 bytes).
-/
import Derived.Test.YtkjbfkhiijnemaaHkAwake
import Derived.OpenShut
namespace Go.Proofs.Ytkjbfkhiijnemaa.Hk
open Go Go.RowKit Go.Proofs.Ytkjbfkhiijnemaa.Reg Go.Proofs.Ytkjbfkhiijnemaa.Sha

set_option maxRecDepth 100000 in
set_option maxHeartbeats 600000 in
theorem names_w (w : World) : Calls Try.prog 3 #[] w fun e w' => e = .returned (.bool true) ∧ Below w.heap.size w w' := by
  go_enter Try.func3, Try.ntmps3
  go_wp2_with (go_at_call 8; refine (awake_c _).mono ?_; rintro e w1 ⟨rfl, hb1⟩)
  go_ret
  exact ⟨rfl, hb1⟩

set_option maxRecDepth 100000 in
set_option maxHeartbeats 600000 in
theorem keys_big (A : Option Addr) (n c : Nat) (A' : Option Addr) (n' c' : Nat) (m : Int) (w : World) (hn : ¬ (n ≤ 500 ∧ n' ≤ 500)) : Calls Try.prog 5 #[.slice A n c, .slice A' n' c', .int .i64 m] w fun e w' => e = .returned (.bool true) ∧ Below w.heap.size w w' := by
  have hd : decide (n ≤ 500 ∧ n' ≤ 500) = false := decide_eq_false hn
  have HD : Keep _ := ⟨hd⟩
  clear hd hn
  go_enter Try.func5, Try.ntmps5
  go_wp2_with (first
    | (go_at_call 8; refine (awake_c _).mono ?_; rintro e w1 ⟨rfl, hb1⟩)
    | (go_at_call 9; refine (few_c A n c A' n' c' w1).mono ?_; rintro e w2 ⟨rfl, hb2⟩; rw [HD.out]; have hbb2 := hb1.trans (hb2.mono hb1.size)))
  go_ret
  exact ⟨rfl, hbb2⟩

theorem macL_long {key : List Int} (b : List Int) (h : 64 < key.length) : macL (sumL key) b = macL key b := by
  have h1 : keyL (sumL key) = keyL key := by
    rw [keyL, if_neg (by rw [sumL_len]; omega), keyL, if_pos h]
  have h2 : blockL (sumL key) = blockL key := by rw [blockL, blockL, h1]
  rw [macL, macL, innerL, innerL, h2]
theorem macL_noughts {key : List Int} (b : List Int) {z : Nat} (h : key.length + z ≤ 64) : macL (key ++ List.replicate z 0) b = macL key b := by
  have hl : (key ++ List.replicate z (0 : Int)).length = key.length + z := by simp
  have h1 : keyL (key ++ List.replicate z 0) = key ++ List.replicate z 0 := by rw [keyL, if_neg (by omega)]
  have h2 : keyL key = key := by rw [keyL, if_neg (by omega)]
  have h3 : blockL (key ++ List.replicate z 0) = blockL key := by
    rw [blockL, blockL, h1, h2, hl, List.append_assoc, List.replicate_append_replicate, show z + (64 - (key.length + z)) = 64 - key.length by omega]
  rw [macL, macL, innerL, innerL, h3]

set_option maxRecDepth 100000 in
set_option maxHeartbeats 1000000 in
theorem keys_long (A : Option Addr) (n c : Nat) (key : List Int) (A' : Option Addr) (n' c' : Nat) (b : List Int) (m : Int) (w : World) (hr : Rd w w.heap.size A n .u8 key) (hby : Bytes key) (hr' : Rd w w.heap.size A' n' .u8 b) (hby' : Bytes b) (hn : n ≤ 500 ∧ n' ≤ 500) (hlong : 64 < n) :
    Calls Try.prog 5 #[.slice A n c, .slice A' n' c', .int .i64 m] w fun e w' => e = .returned (.bool true) ∧ Below w.heap.size w w' := by
  have hd : decide (n ≤ 500 ∧ n' ≤ 500) = true := decide_eq_true hn
  have HD : Keep _ := ⟨hd⟩
  have HN : Keep (n ≤ 100000 ∧ n' ≤ 100000 ∧ n ≤ 1000000) := ⟨by omega⟩
  have BY : Keep _ := ⟨hby⟩
  have BY' : Keep _ := ⟨hby'⟩
  have hml := macL_long b (show 64 < key.length by rw [hr.len]; exact hlong)
  obtain ⟨q, hq⟩ : ∃ q, sumL key = q := ⟨_, rfl⟩
  rw [hq] at hml
  obtain ⟨s, hs⟩ : ∃ s, macL key b = s := ⟨_, rfl⟩
  rw [hs] at hml
  have hsl : s.length = 32 := by rw [← hs]; exact macL_len _ _
  have hql : q.length = 32 := by rw [← hq]; exact sumL_len _
  have hqb : Bytes q := by rw [← hq]; exact sumL_bytes _
  have HS : Keep _ := ⟨hs⟩
  have HQ : Keep _ := ⟨hq⟩
  have HML : Keep _ := ⟨hml⟩
  have SL : Keep _ := ⟨hsl⟩
  have QL : Keep _ := ⟨hql⟩
  have QB : Keep _ := ⟨hqb⟩
  have heq : ∀ w : World, (Op.equalIn 10000 29 (.agg (vals .u8 s)) (.agg (vals .u8 s))).run Try.prog w = .ok true w := fun w => by
    rw [equalIn_vals (d := 9998) Try.underlying29 Try.underlying5 (by kernel_rfl) (by kernel_rfl) hsl hsl]
    simp
  have hgd : Try.prog.eqGuardType Try.prog.depth 29 = false := by kernel_rfl
  clear hd hn hby hby' hs hsl hq hql hqb hml
  go_enter Try.func5, Try.ntmps5
  go_wp2_with (first
    | (go_at_call 8; refine (awake_c _).mono ?_; rintro e w1 ⟨rfl, hb1⟩)
    | (go_at_call 9; refine (few_c A n c A' n' c' w1).mono ?_; rintro e w2 ⟨rfl, hb2⟩; rw [HD.out]; have hbb2 := hb1.trans (hb2.mono hb1.size); have hr2 := hr.keep hbb2 (Nat.le_refl _); have hs2 := hr'.keep hbb2 (Nat.le_refl _); clear hb1 hb2)
    | (go_at_call 13
       refine (mac_c A n c key A' n' c' b w.heap.size w2 hr2 BY.out hs2 BY'.out hbb2.size HN.out.1 HN.out.2.1).mono ?_
       rintro e w3 ⟨rfl, hb3⟩
       rw [HS.out]
       have hr3 := hr2.keep hb3 hbb2.size
       have hs3 := hs2.keep hb3 hbb2.size
       have hbb3 := hbb2.trans (hb3.mono hbb2.size)
       clear hbb2 hb3 hr2 hs2)
    | (refine store_abs2 (by rfl) 29 (.tmp 9) (.tmp 24) (by rfl) (by rfl) w5.heap.size (vals .u8 q) (by rfl) (by rfl) 29 (vals .u8 Z32) (Has.new' _ rfl _ _) (by rw [vals_size, QL.out]; kernel_rfl) (by rw [vals_size, vals_size, QL.out]; rfl) vals_one ?_
       intro w6 hQ6 hkeep hbg
       have hbe := ((Below.refl w5.heap.size w5).alloc (Nat.le_refl _) (.cells (vals .u8 Z32) 29)).trans hbg
       have hM6 := hM5.keep hbe
       have hs6 := hs5.keep hbe hbb5.size
       have hbb6 := hbb5.trans (hbe.mono hbb5.size)
       clear hkeep hbg hbe hM5 hs5 hbb5)
    | (refine store_abs2 (by rfl) 29 (.tmp 8) (.tmp 19) (by rfl) (by rfl) w3.heap.size (vals .u8 s) (by rfl) (by rfl) 29 (vals .u8 Z32) (Has.new' _ rfl _ _) (by rw [vals_size, SL.out]; kernel_rfl) (by rw [vals_size, vals_size, SL.out]; rfl) vals_one ?_
       intro w4 hM4 hkeep hbg
       have hbe := ((Below.refl w3.heap.size w3).alloc (Nat.le_refl _) (.cells (vals .u8 Z32) 29)).trans hbg
       have hr4 := hr3.keep hbe hbb3.size
       have hs4 := hs3.keep hbe hbb3.size
       have hbb4 := hbb3.trans (hbe.mono hbb3.size)
       clear hkeep hbg hbe hr3 hs3 hbb3)
    | (go_at_call 16
       refine (sum_c A n c key w.heap.size w4 hr4 BY.out hbb4.size HN.out.2.2).mono ?_
       rintro e w5 ⟨rfl, hb5⟩
       rw [HQ.out]
       have hs5 := hs4.keep hb5 hbb4.size
       have hM5 := hM4.keep hb5
       have hbb5 := hbb4.trans (hb5.mono hbb4.size)
       clear hr4 hs4 hbb4 hb5 hM4))
  refine wp_fam_all (by kernel_rfl) (by kernel_rfl) (fun I hI' fw hf hback => ?_)
  have MC : ∀ i, Calls Try.prog 13 #[.slice (some ⟨w5.heap.size, 0, none⟩) 32 32, .slice A' n' c'] (fw i) fun e w' => e = .returned (.agg (vals .u8 s)) ∧ Below (fw i).heap.size (fw i) w' := fun i => by
    have h1 : Rd (fw i) w6.heap.size (some ⟨w5.heap.size, 0, none⟩) 32 .u8 q := Rd.of_has (hQ6.keep (hf i)) hQ6.lt (by rw [List.drop_zero, List.take_of_length_le (by rw [QL.out]; omega)]) (by rw [QL.out]; omega)
    have h2 := mac_c (some ⟨w5.heap.size, 0, none⟩) 32 32 q A' n' c' b w6.heap.size (fw i) h1 QB.out ((hs6.keep (hf i) hbb6.size).more hbb6.size) BY'.out (hf i).size (by omega) HN.out.2.1
    rw [HML.out] at h2
    exact h2
  repeat (first
    | (go_big_quiet_want
       refine quiet_load_seg 29 (.tmp 8) (by rfl) w3.heap.size 0 32 (by rfl) 29 .u8 s s _ (fun w' ⟨i, hi⟩ => by rw [hi]; exact hM6.keep (hf i)) Try.underlying29 rfl (by kernel_rfl) (by rw [List.drop_zero, List.take_of_length_le (by rw [SL.out]; omega)]) (by rw [SL.out]; omega) ?_
       simp only [Act.put, List.setIfInBounds_toArray, List.set_cons_zero, List.set_cons_succ]
       go_big_quiet_on)
    | go_big_quiet_step ((go_at_call 13; exact calls_fam hf hback (MC _))))
  refine wpQuiet_nil ?_
  intro w7 hb7
  have hbb7 := hbb6.trans (hb7.mono hbb6.size)
  clear hf hback MC
  go_wp2
  go_ret
  exact ⟨rfl, hbb7⟩
end Go.Proofs.Ytkjbfkhiijnemaa.Hk
