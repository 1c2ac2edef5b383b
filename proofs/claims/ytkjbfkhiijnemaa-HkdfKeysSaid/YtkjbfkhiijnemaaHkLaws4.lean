/-
  Own text. The walk of the statement on keys: noughts at a short key's end do nothing.
-/
import Derived.Test.YtkjbfkhiijnemaaHkLaws3
import Derived.Test.YtkjbfkhiijnemaaMemC
namespace Go.Proofs.Ytkjbfkhiijnemaa.Hk
open Go Go.RowKit Go.Proofs.Ytkjbfkhiijnemaa.Reg Go.Proofs.Ytkjbfkhiijnemaa.Sha

theorem build_nil {ops : Array Oper} {rest : List Oper} {o : Oper} {a : Act} {w : World} {Q : Exit → Act → World → Prop} (hgd : o.guard = none) (ho : o.op = .buildSlice 23 0 #[])
    (h : wpList Try.prog ops Q rest (a.put o.dst (.slice (some ⟨w.heap.size, 0, none⟩) 0 0)) (w.alloc (.cells #[] 5))) : wpList Try.prog ops Q (o :: rest) a w := by
  refine wpList_plain hgd fun K hK => ?_
  unfold Oper.wp execOp
  rw [ho]
  go_simp
  exact hK _ _ h

set_option maxRecDepth 100000 in
set_option maxHeartbeats 1000000 in
theorem keys_pos (A : Option Addr) (n c : Nat) (key : List Int) (A' : Option Addr) (n' c' : Nat) (b : List Int) (m : Int) (w : World) (hr : Rd w w.heap.size A n .u8 key) (hby : Bytes key) (hr' : Rd w w.heap.size A' n' .u8 b) (hby' : Bytes b) (hn : n ≤ 500 ∧ n' ≤ 500) (hlong : n ≤ 64) (hm : 0 ≤ m) :
    Calls Try.prog 5 #[.slice A n c, .slice A' n' c', .int .i64 m] w fun e w' => e = .returned (.bool true) ∧ Below w.heap.size w w' := by
  have hd : decide (n ≤ 500 ∧ n' ≤ 500) = true := decide_eq_true hn
  have HD : Keep _ := ⟨hd⟩
  have HN : Keep (n ≤ 100000 ∧ n' ≤ 100000 ∧ n ≤ 1000000) := ⟨by omega⟩
  have BY : Keep _ := ⟨hby⟩
  have BY' : Keep _ := ⟨hby'⟩
  obtain ⟨z, hz⟩ : ∃ z : Nat, m % (65 - (n : Int)) = z := ⟨(m % (65 - (n : Int))).toNat, by have := Int.emod_nonneg m (b := 65 - (n : Int)) (by omega); omega⟩
  have hz64 : n + z ≤ 64 := by have := Int.emod_lt_of_pos m (b := 65 - (n : Int)) (by omega); omega
  have hml := macL_noughts b (key := key) (z := z) (by rw [hr.len]; exact hz64)
  obtain ⟨q, hq⟩ : ∃ q, key ++ List.replicate z 0 = q := ⟨_, rfl⟩
  rw [hq] at hml
  obtain ⟨s, hs⟩ : ∃ s, macL key b = s := ⟨_, rfl⟩
  rw [hs] at hml
  have hsl : s.length = 32 := by rw [← hs]; exact macL_len _ _
  have hqb : Bytes q := by rw [← hq]; exact bytes_append hby (bytes_zeros _)
  have HS : Keep _ := ⟨hs⟩
  have HQ : Keep _ := ⟨hq⟩
  have HML : Keep _ := ⟨hml⟩
  have SL : Keep _ := ⟨hsl⟩
  have HT : Keep (Int.tmod m (65 - (n : Int)) = z) := ⟨by rw [Int.tmod_eq_emod_of_nonneg (by omega)]; exact hz⟩
  have HW : Keep (IntKind.i64.wrap (65 - (n : Int)) = 65 - (n : Int)) := ⟨by rw [IntKind.wrap_i64]; omega⟩
  have QB : Keep _ := ⟨hqb⟩
  have heq : ∀ w : World, (Op.equalIn 10000 29 (.agg (vals .u8 s)) (.agg (vals .u8 s))).run Try.prog w = .ok true w := fun w => by
    rw [equalIn_vals (d := 9998) Try.underlying29 Try.underlying5 (by kernel_rfl) (by kernel_rfl) hsl hsl]
    simp
  have hgd : Try.prog.eqGuardType Try.prog.depth 29 = false := by kernel_rfl
  clear hd hn hby hby' hs hsl hq hqb hml hz
  go_enter Try.func5, Try.ntmps5
  go_wp2_with (first
    | (go_at_call 8; refine (awake_c _).mono ?_; rintro e w1 ⟨rfl, hb1⟩)
    | (go_at_call 9; refine (few_c A n c A' n' c' w1).mono ?_; rintro e w2 ⟨rfl, hb2⟩; rw [HD.out]; have hbb2 := hb1.trans (hb2.mono hb1.size); have hr2 := hr.keep hbb2 (Nat.le_refl _); have hs2 := hr'.keep hbb2 (Nat.le_refl _); clear hb1 hb2)
    | (go_at_call 13
       refine (mac_c A n c key A' n' c' b w.heap.size w2 hr2 BY.out hs2 BY'.out hbb2.size HN.out.1 HN.out.2.1).mono ?_
       rintro e w3 ⟨rfl, hb3⟩
       rw [HS.out]
       have hr3 := hr2.keep hb3 hbb2.size
       have hs3 := hs2.keep hb3 hbb2.size
       have hbb3 := hbb2.trans (hb3.mono hbb2.size)
       clear hbb2 hb3 hr2 hs2)
    | (refine store_abs2 (by rfl) 29 (.tmp 8) (.tmp 19) (by rfl) (by rfl) w3.heap.size (vals .u8 s) (by rfl) (by rfl) 29 (vals .u8 Z32) (Has.new' _ rfl _ _) (by rw [vals_size, SL.out]; kernel_rfl) (by rw [vals_size, vals_size, SL.out]; rfl) vals_one ?_
       intro w4 hM4 hkeep hbg
       have hbe := ((Below.refl w3.heap.size w3).alloc (Nat.le_refl _) (.cells (vals .u8 Z32) 29)).trans hbg
       have hr4 := hr3.keep hbe hbb3.size
       have hs4 := hs3.keep hbe hbb3.size
       have hbb4 := hbb3.trans (hbe.mono hbb3.size)
       clear hkeep hbg hbe hr3 hs3 hbb3))
  go_wp2_with fail
  refine wp_front [1, 3, 4, 5, 6, 7] [0, 2, 8, 9] (by kernel_rfl) (by rfl) (by kernel_rfl) (by kernel_rfl) (fun _ _ d _ _ h => by cases d <;> exact h) ?_
  simp only [List.filterMap_cons, List.filterMap_nil, List.getElem?_cons_zero, List.getElem?_cons_succ]
  refine ⟨_, Or.inl ⟨by rfl, fun w => (by go_simp; with_reducible rfl)⟩, ?_⟩
  simp only [Act.put, List.setIfInBounds_toArray, List.set_cons_zero, List.set_cons_succ]
  refine ⟨_, Or.inl ⟨by rfl, fun w => (by go_simp; with_reducible rfl)⟩, ?_⟩
  simp only [Act.put, List.setIfInBounds_toArray, List.set_cons_zero, List.set_cons_succ]
  refine ⟨_, Or.inl ⟨by rfl, fun w => (by go_simp; with_reducible rfl)⟩, ?_⟩
  simp only [Act.put, List.setIfInBounds_toArray, List.set_cons_zero, List.set_cons_succ]
  refine ⟨_, Or.inl ⟨by rfl, fun w => (by go_simp; with_reducible rfl)⟩, ?_⟩
  simp only [Act.put, List.setIfInBounds_toArray, List.set_cons_zero, List.set_cons_succ]
  refine ⟨.int .i64 (65 - (n : Int)), Or.inl ⟨by rfl, fun w => (by go_simp; rw [HW.out])⟩, ?_⟩
  simp only [Act.put, List.setIfInBounds_toArray, List.set_cons_zero, List.set_cons_succ]
  refine ⟨.int .i64 (z : Int), Or.inl ⟨by rfl, fun w => ?hrem⟩, ?_⟩
  case hrem =>
    go_simp
    rw [if_neg (by omega), HT.out]
  simp only [Act.put, List.setIfInBounds_toArray, List.set_cons_zero, List.set_cons_succ]
  change wpList _ _ _ _ _ _
  refine wpList_own (by rfl) ?_
  have hM6 := hM4.drew
  have hbd : Below w4.heap.size w4 w4.drew := ⟨rfl, rfl, rfl, Nat.le_refl _, fun _ _ => rfl⟩
  have hr6 := hr4.keep hbd hbb4.size
  have hs6 := hs4.keep hbd hbb4.size
  have hbb6 := hbb4.trans (hbd.mono hbb4.size)
  clear hM4 hr4 hs4 hbb4 hbd
  generalize w4.drew = w6 at *
  refine build_nil (by rfl) (by rfl) ?_
  simp only [Act.put, List.setIfInBounds_toArray, List.set_cons_zero, List.set_cons_succ]
  refine append_abs (by rfl) (.tmp 38) (.tmp 39) 23 (by rfl) w6.heap.size 5 .u8 1 Try.underlying23 u8Elem (some ⟨w6.heap.size, 0, none⟩) 0 0 [] (by rfl) (Own.of_has (Has.new w6 5 (vals .u8 [])) (Nat.le_refl _) (Nat.zero_le _)) w.heap.size A n c key (by rfl) (hr6.keep ((Below.refl w6.heap.size w6).alloc (Nat.le_refl _) _) hbb6.size) n (Nat.zero_add n) key (by rfl) (by omega) (by unfold maxLen; omega) (by simp) ?_
  intro A7 c7 w7 ho7 hb7
  have hbe := ((Below.refl w6.heap.size w6).alloc (Nat.le_refl _) (.cells (vals .u8 []) 5)).trans hb7
  have hM7 := hM6.keep hbe
  have hs7 := hs6.keep hbe hbb6.size
  have hl7 := hbe.size
  have hbb7 := hbb6.trans (hbe.mono hbb6.size)
  have hg6 := hM6.lt
  clear hbe hb7 hM6 hr6 hs6
  simp only [Act.put, List.setIfInBounds_toArray, List.set_cons_zero, List.set_cons_succ]
  refine append_zeros_abs (by rfl) (.tmp 40) (.tmp 45) 23 3 (by rfl) w6.heap.size 5 .u8 .i64 1 Try.underlying23 Try.underlying3 u8Elem A7 n c7 key (by rfl) ho7 .i64 z (by rfl) (n + z) (by rfl) q HQ.out (by omega) (by unfold maxLen; omega) hl7 ?_
  intro A8 c8 w8 ho8 hb8
  have hM8 := hM7.below hb8 hg6
  have hs8 := hs7.keep hb8 hbb6.size
  have hbb8 := hbb7.trans (hb8.mono hbb6.size)
  clear hb8 hM7 hs7 ho7 hbb7
  simp only [Act.put, List.setIfInBounds_toArray, List.set_cons_zero, List.set_cons_succ]
  go_wp2_with fail
  refine wp_fam_all (by kernel_rfl) (by kernel_rfl) (fun I hI' fw hf hback => ?_)
  have MC : ∀ i, Calls Try.prog 13 #[.slice A8 (n + z) c8, .slice A' n' c'] (fw i) fun e w' => e = .returned (.agg (vals .u8 s)) ∧ Below (fw i).heap.size (fw i) w' := fun i => by
    have h1 := ho8.rd.keep (hf i) (Nat.le_refl _)
    have h2 := mac_c A8 (n + z) c8 q A' n' c' b w8.heap.size (fw i) h1 QB.out ((hs8.keep (hf i) hbb8.size).more hbb8.size) BY'.out (hf i).size (by omega) HN.out.2.1
    rw [HML.out] at h2
    exact h2
  repeat (first
    | (go_big_quiet_want
       refine quiet_load_seg 29 (.tmp 8) (by rfl) w3.heap.size 0 32 (by rfl) 29 .u8 s s _ (fun w' ⟨i, hi⟩ => by rw [hi]; exact hM8.keep (hf i)) Try.underlying29 rfl (by kernel_rfl) (by rw [List.drop_zero, List.take_of_length_le (by rw [SL.out]; omega)]) (by rw [SL.out]; omega) ?_
       simp only [Act.put, List.setIfInBounds_toArray, List.set_cons_zero, List.set_cons_succ]
       go_big_quiet_on)
    | go_big_quiet_step ((go_at_call 13; exact calls_fam hf hback (MC _))))
  refine wpQuiet_nil ?_
  intro w9 hb9
  have hbb9 := hbb8.trans (hb9.mono hbb8.size)
  clear hf hback MC
  go_wp2
  go_ret
  exact ⟨rfl, hbb9⟩

set_option maxRecDepth 100000 in
set_option maxHeartbeats 1000000 in
theorem keys_neg (A : Option Addr) (n c : Nat) (key : List Int) (A' : Option Addr) (n' c' : Nat) (b : List Int) (m : Int) (w : World) (hr : Rd w w.heap.size A n .u8 key) (hby : Bytes key) (hr' : Rd w w.heap.size A' n' .u8 b) (hby' : Bytes b) (hn : n ≤ 500 ∧ n' ≤ 500) (hlong : n ≤ 64) (hm : m < 0) (hlo : -9223372036854775808 ≤ m) :
    Calls Try.prog 5 #[.slice A n c, .slice A' n' c', .int .i64 m] w fun e w' => e = .returned (.bool true) ∧ Below w.heap.size w w' := by
  have hd : decide (n ≤ 500 ∧ n' ≤ 500) = true := decide_eq_true hn
  have HD : Keep _ := ⟨hd⟩
  have HN : Keep (n ≤ 100000 ∧ n' ≤ 100000 ∧ n ≤ 1000000) := ⟨by omega⟩
  have BY : Keep _ := ⟨hby⟩
  have BY' : Keep _ := ⟨hby'⟩
  obtain ⟨z, hz⟩ : ∃ z : Nat, (-(m + 1)) % (65 - (n : Int)) = z := ⟨((-(m + 1)) % (65 - (n : Int))).toNat, by have := Int.emod_nonneg (-(m + 1)) (b := 65 - (n : Int)) (by omega); omega⟩
  have hz64 : n + z ≤ 64 := by have := Int.emod_lt_of_pos (-(m + 1)) (b := 65 - (n : Int)) (by omega); omega
  have hml := macL_noughts b (key := key) (z := z) (by rw [hr.len]; exact hz64)
  obtain ⟨q, hq⟩ : ∃ q, key ++ List.replicate z 0 = q := ⟨_, rfl⟩
  rw [hq] at hml
  obtain ⟨s, hs⟩ : ∃ s, macL key b = s := ⟨_, rfl⟩
  rw [hs] at hml
  have hsl : s.length = 32 := by rw [← hs]; exact macL_len _ _
  have hqb : Bytes q := by rw [← hq]; exact bytes_append hby (bytes_zeros _)
  have HS : Keep _ := ⟨hs⟩
  have HQ : Keep _ := ⟨hq⟩
  have HML : Keep _ := ⟨hml⟩
  have SL : Keep _ := ⟨hsl⟩
  have HT : Keep (-((m + 1).tmod (65 - (n : Int))) = z) := ⟨by rw [← Int.neg_tmod, Int.tmod_eq_emod_of_nonneg (by omega)]; exact hz⟩
  have HW : Keep (IntKind.i64.wrap (65 - (n : Int)) = 65 - (n : Int)) := ⟨by rw [IntKind.wrap_i64]; omega⟩
  have QB : Keep _ := ⟨hqb⟩
  have heq : ∀ w : World, (Op.equalIn 10000 29 (.agg (vals .u8 s)) (.agg (vals .u8 s))).run Try.prog w = .ok true w := fun w => by
    rw [equalIn_vals (d := 9998) Try.underlying29 Try.underlying5 (by kernel_rfl) (by kernel_rfl) hsl hsl]
    simp
  have hgd : Try.prog.eqGuardType Try.prog.depth 29 = false := by kernel_rfl
  clear hd hn hby hby' hs hsl hq hqb hml hz
  go_enter Try.func5, Try.ntmps5
  go_wp2_with (first
    | (go_at_call 8; refine (awake_c _).mono ?_; rintro e w1 ⟨rfl, hb1⟩)
    | (go_at_call 9; refine (few_c A n c A' n' c' w1).mono ?_; rintro e w2 ⟨rfl, hb2⟩; rw [HD.out]; have hbb2 := hb1.trans (hb2.mono hb1.size); have hr2 := hr.keep hbb2 (Nat.le_refl _); have hs2 := hr'.keep hbb2 (Nat.le_refl _); clear hb1 hb2)
    | (go_at_call 13
       refine (mac_c A n c key A' n' c' b w.heap.size w2 hr2 BY.out hs2 BY'.out hbb2.size HN.out.1 HN.out.2.1).mono ?_
       rintro e w3 ⟨rfl, hb3⟩
       rw [HS.out]
       have hr3 := hr2.keep hb3 hbb2.size
       have hs3 := hs2.keep hb3 hbb2.size
       have hbb3 := hbb2.trans (hb3.mono hbb2.size)
       clear hbb2 hb3 hr2 hs2)
    | (refine store_abs2 (by rfl) 29 (.tmp 8) (.tmp 19) (by rfl) (by rfl) w3.heap.size (vals .u8 s) (by rfl) (by rfl) 29 (vals .u8 Z32) (Has.new' _ rfl _ _) (by rw [vals_size, SL.out]; kernel_rfl) (by rw [vals_size, vals_size, SL.out]; rfl) vals_one ?_
       intro w4 hM4 hkeep hbg
       have hbe := ((Below.refl w3.heap.size w3).alloc (Nat.le_refl _) (.cells (vals .u8 Z32) 29)).trans hbg
       have hr4 := hr3.keep hbe hbb3.size
       have hs4 := hs3.keep hbe hbb3.size
       have hbb4 := hbb3.trans (hbe.mono hbb3.size)
       clear hkeep hbg hbe hr3 hs3 hbb3))
  go_wp2_with fail
  refine wp_front [1, 3, 4, 5, 6, 7] [0, 2, 8, 9] (by kernel_rfl) (by rfl) (by kernel_rfl) (by kernel_rfl) (fun _ _ d _ _ h => by cases d <;> exact h) ?_
  simp only [List.filterMap_cons, List.filterMap_nil, List.getElem?_cons_zero, List.getElem?_cons_succ]
  refine ⟨_, Or.inl ⟨by rfl, fun w => (by go_simp; with_reducible rfl)⟩, ?_⟩
  simp only [Act.put, List.setIfInBounds_toArray, List.set_cons_zero, List.set_cons_succ]
  refine ⟨_, Or.inl ⟨by rfl, fun w => (by go_simp; with_reducible rfl)⟩, ?_⟩
  simp only [Act.put, List.setIfInBounds_toArray, List.set_cons_zero, List.set_cons_succ]
  refine ⟨_, Or.inl ⟨by rfl, fun w => (by go_simp; with_reducible rfl)⟩, ?_⟩
  simp only [Act.put, List.setIfInBounds_toArray, List.set_cons_zero, List.set_cons_succ]
  refine ⟨_, Or.inl ⟨by rfl, fun w => (by go_simp; with_reducible rfl)⟩, ?_⟩
  simp only [Act.put, List.setIfInBounds_toArray, List.set_cons_zero, List.set_cons_succ]
  refine ⟨.int .i64 (65 - (n : Int)), Or.inl ⟨by rfl, fun w => (by go_simp; rw [HW.out])⟩, ?_⟩
  simp only [Act.put, List.setIfInBounds_toArray, List.set_cons_zero, List.set_cons_succ]
  refine ⟨.int .i64 (z : Int), Or.inl ⟨by rfl, fun w => ?hrem⟩, ?_⟩
  case hrem =>
    go_simp
    rw [if_neg (by omega), HT.out]
  simp only [Act.put, List.setIfInBounds_toArray, List.set_cons_zero, List.set_cons_succ]
  change wpList _ _ _ _ _ _
  refine wpList_own (by rfl) ?_
  have hM6 := hM4.drew
  have hbd : Below w4.heap.size w4 w4.drew := ⟨rfl, rfl, rfl, Nat.le_refl _, fun _ _ => rfl⟩
  have hr6 := hr4.keep hbd hbb4.size
  have hs6 := hs4.keep hbd hbb4.size
  have hbb6 := hbb4.trans (hbd.mono hbb4.size)
  clear hM4 hr4 hs4 hbb4 hbd
  generalize w4.drew = w6 at *
  refine build_nil (by rfl) (by rfl) ?_
  simp only [Act.put, List.setIfInBounds_toArray, List.set_cons_zero, List.set_cons_succ]
  refine append_abs (by rfl) (.tmp 38) (.tmp 39) 23 (by rfl) w6.heap.size 5 .u8 1 Try.underlying23 u8Elem (some ⟨w6.heap.size, 0, none⟩) 0 0 [] (by rfl) (Own.of_has (Has.new w6 5 (vals .u8 [])) (Nat.le_refl _) (Nat.zero_le _)) w.heap.size A n c key (by rfl) (hr6.keep ((Below.refl w6.heap.size w6).alloc (Nat.le_refl _) _) hbb6.size) n (Nat.zero_add n) key (by rfl) (by omega) (by unfold maxLen; omega) (by simp) ?_
  intro A7 c7 w7 ho7 hb7
  have hbe := ((Below.refl w6.heap.size w6).alloc (Nat.le_refl _) (.cells (vals .u8 []) 5)).trans hb7
  have hM7 := hM6.keep hbe
  have hs7 := hs6.keep hbe hbb6.size
  have hl7 := hbe.size
  have hbb7 := hbb6.trans (hbe.mono hbb6.size)
  have hg6 := hM6.lt
  clear hbe hb7 hM6 hr6 hs6
  simp only [Act.put, List.setIfInBounds_toArray, List.set_cons_zero, List.set_cons_succ]
  refine append_zeros_abs (by rfl) (.tmp 40) (.tmp 45) 23 3 (by rfl) w6.heap.size 5 .u8 .i64 1 Try.underlying23 Try.underlying3 u8Elem A7 n c7 key (by rfl) ho7 .i64 z (by rfl) (n + z) (by rfl) q HQ.out (by omega) (by unfold maxLen; omega) hl7 ?_
  intro A8 c8 w8 ho8 hb8
  have hM8 := hM7.below hb8 hg6
  have hs8 := hs7.keep hb8 hbb6.size
  have hbb8 := hbb7.trans (hb8.mono hbb6.size)
  clear hb8 hM7 hs7 ho7 hbb7
  simp only [Act.put, List.setIfInBounds_toArray, List.set_cons_zero, List.set_cons_succ]
  go_wp2_with fail
  refine wp_fam_all (by kernel_rfl) (by kernel_rfl) (fun I hI' fw hf hback => ?_)
  have MC : ∀ i, Calls Try.prog 13 #[.slice A8 (n + z) c8, .slice A' n' c'] (fw i) fun e w' => e = .returned (.agg (vals .u8 s)) ∧ Below (fw i).heap.size (fw i) w' := fun i => by
    have h1 := ho8.rd.keep (hf i) (Nat.le_refl _)
    have h2 := mac_c A8 (n + z) c8 q A' n' c' b w8.heap.size (fw i) h1 QB.out ((hs8.keep (hf i) hbb8.size).more hbb8.size) BY'.out (hf i).size (by omega) HN.out.2.1
    rw [HML.out] at h2
    exact h2
  repeat (first
    | (go_big_quiet_want
       refine quiet_load_seg 29 (.tmp 8) (by rfl) w3.heap.size 0 32 (by rfl) 29 .u8 s s _ (fun w' ⟨i, hi⟩ => by rw [hi]; exact hM8.keep (hf i)) Try.underlying29 rfl (by kernel_rfl) (by rw [List.drop_zero, List.take_of_length_le (by rw [SL.out]; omega)]) (by rw [SL.out]; omega) ?_
       simp only [Act.put, List.setIfInBounds_toArray, List.set_cons_zero, List.set_cons_succ]
       go_big_quiet_on)
    | go_big_quiet_step ((go_at_call 13; exact calls_fam hf hback (MC _))))
  refine wpQuiet_nil ?_
  intro w9 hb9
  have hbb9 := hbb8.trans (hb9.mono hbb8.size)
  clear hf hback MC
  go_wp2
  go_ret
  exact ⟨rfl, hbb9⟩

theorem keys_w {w : World} {A : Option Addr} {n : Nat} (c : Nat) {key : List Int} {A' : Option Addr} {n' : Nat} (c' : Nat) {b : List Int} (m : Int) (hlo : -9223372036854775808 ≤ m) (h : Rd w w.heap.size A n .u8 key ∧ Bytes key) (h' : Rd w w.heap.size A' n' .u8 b ∧ Bytes b) :
    Calls Try.prog 5 #[.slice A n c, .slice A' n' c', .int .i64 m] w fun e w' => e = .returned (.bool true) ∧ Below w.heap.size w w' := by
  by_cases hn : n ≤ 500 ∧ n' ≤ 500
  · rcases Nat.lt_or_ge 64 n with hl | hl
    · exact keys_long A n c key A' n' c' b m w h.1 h.2 h'.1 h'.2 hn hl
    · rcases Int.lt_or_le m 0 with hm | hm
      · exact keys_neg A n c key A' n' c' b m w h.1 h.2 h'.1 h'.2 hn hl hm hlo
      · exact keys_pos A n c key A' n' c' b m w h.1 h.2 h'.1 h'.2 hn hl hm
  · exact keys_big A n c A' n' c' m w hn
end Go.Proofs.Ytkjbfkhiijnemaa.Hk
