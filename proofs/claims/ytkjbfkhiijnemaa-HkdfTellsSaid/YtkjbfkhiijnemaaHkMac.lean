/-
  Own text. The contract of layer 2's reference for keyed sums.
-/
import Derived.Test.YtkjbfkhiijnemaaHkRef
import Derived.Test.YtkjbfkhiijnemaaRegB
namespace Go.Proofs.Ytkjbfkhiijnemaa.Hk
open Go Go.RowKit Go.Proofs.Ytkjbfkhiijnemaa.Reg Go.Proofs.Ytkjbfkhiijnemaa.Sha

set_option maxRecDepth 100000 in
set_option maxHeartbeats 1000000 in
theorem refMac_c (A : Option Addr) (n c : Nat) (key : List Int) (A' : Option Addr) (n' c' : Nat) (b : List Int) (B : Nat) (w : World) (hr : Rd w B A n .u8 key) (hby : Bytes key) (hr' : Rd w B A' n' .u8 b) (hby' : Bytes b) (hB : B ≤ w.heap.size) (hn : n ≤ 100000) (hn' : n' ≤ 100000) :
    Calls Try.prog 14 #[.slice A n c, .slice A' n' c'] w fun e w' => e = .returned (.agg (vals .u8 (macL key b))) ∧ Below w.heap.size w w' := by
  have LN : Keep _ := ⟨hr.len⟩
  have LN' : Keep _ := ⟨hr'.len⟩
  have BY : Keep _ := ⟨hby⟩
  have BY' : Keep _ := ⟨hby'⟩
  obtain ⟨bl, hbl⟩ : ∃ bl, blockL key = bl := ⟨_, rfl⟩
  have hbll : bl.length = 64 := hbl ▸ blockL_len key
  obtain ⟨li, hli⟩ : ∃ li, lessL 54 bl ++ b = li := ⟨_, rfl⟩
  obtain ⟨si, hsi⟩ : ∃ si, sumL li = si := ⟨_, rfl⟩
  obtain ⟨lo, hlo⟩ : ∃ lo, lessL 92 bl ++ si = lo := ⟨_, rfl⟩
  obtain ⟨so, hso⟩ : ∃ so, sumL lo = so := ⟨_, rfl⟩
  have hmac : macL key b = so := by rw [macL, innerL, hbl, hli, hsi, hlo, hso]
  have hsil : si.length = 32 := hsi ▸ sumL_len li
  have hsol : so.length = 32 := hso ▸ sumL_len lo
  have hbli : Bytes li := hli ▸ bytes_append (lessL_bytes _ _) hby'
  have hblo : Bytes lo := hlo ▸ bytes_append (lessL_bytes _ _) (hsi ▸ sumL_bytes li)
  have HBL : Keep _ := ⟨hbl⟩
  have HLI : Keep _ := ⟨hli⟩
  have HSI : Keep _ := ⟨hsi⟩
  have HLO : Keep _ := ⟨hlo⟩
  have HSO : Keep _ := ⟨hso⟩
  have MAC : Keep _ := ⟨hmac⟩
  have BLL : Keep _ := ⟨hbll⟩
  have SIL : Keep _ := ⟨hsil⟩
  have SOL : Keep _ := ⟨hsol⟩
  have BLI : Keep _ := ⟨hbli⟩
  have BLO : Keep _ := ⟨hblo⟩
  clear hby hby' hbl hbll hli hsi hlo hso hmac hsil hsol hbli hblo
  have hR0 : Has (w.alloc (.cells (vals .u8 Z32) 29)) w.heap.size 29 (vals .u8 Z32) := Has.new _ _ _
  have hb0 : Below w.heap.size w (w.alloc (.cells (vals .u8 Z32) 29)) := (Below.refl _ _).alloc (Nat.le_refl _) _
  have hr0 := hr.keep hb0 hB
  have hs0 := hr'.keep hb0 hB
  have hB0 := Nat.le_trans hB hb0.size
  go_enter Try.func14, Try.ntmps14
  go_wp2_with (first
    | (go_at_call 19
       refine (refBlock_c A n c key B _ hr0 BY.out hB0 hn).mono ?_
       rintro e w1 ⟨A1, c1, rfl, ho1, hb1⟩
       rw [HBL.out] at ho1
       have hR1 := hR0.keep hb1
       have hs1 := hs0.keep hb1 hB0
       have hbb1 := hb0.trans (hb1.mono hb0.size)
       clear hR0 hr0 hs0 hb0 hb1)
    | (go_at_call 21
       refine (refLess_c A1 64 c1 bl 54 w1.heap.size w1 ho1.rd (Nat.le_refl _) (by omega)).mono ?_
       rintro e w2 ⟨A2, c2, rfl, ho2, hb2⟩
       have hR2 := hR1.keep hb2
       have hs2 := hs1.keep hb2 (Nat.le_trans hB hbb1.size)
       have hbb2 := hbb1.trans (hb2.mono hbb1.size)
       have hK2 := ho1.rd.keep hb2 (Nat.le_refl _)
       have hg1 := hR1.lt
       have hl2 := hb2.size
       clear hR1 hs1 hb2 ho1)
    | (refine append_abs (by rfl) (.tmp 10) (.tmp 11) 23 (by rfl) w1.heap.size 5 .u8 1 Try.underlying23 u8Elem A2 64 c2 (lessL 54 bl) (by rfl) ho2 B A' n' c' b (by rfl) hs2 (64 + n') (by rfl) li HLI.out (by omega) (by unfold maxLen; omega) hl2 ?_
       intro A3 c3 w3 ho3 hb3
       have hR3 := hR2.below hb3 hg1
       have hK3 := hK2.keepB hb3
       have hbb3 := hbb2.trans (hb3.mono hbb1.size)
       have hl3 := Nat.le_trans hl2 hb3.size
       clear hR2 hK2 hbb2 hs2 hb3 hl2 ho2)
    | (go_at_call 20
       refine (refSum_c A3 (64 + n') c3 li w3.heap.size w3 ho3.rd BLI.out (Nat.le_refl _) (by omega)).mono ?_
       rintro e w4 ⟨rfl, hb4⟩
       rw [HSI.out]
       have hR4 := hR3.keep hb4
       have hK4 := hK3.keep hb4 hl3
       have hbb4 := hbb3.trans (hb4.mono hbb3.size)
       have hl4 := Nat.le_trans hl3 hb4.size
       clear hR3 hK3 hbb3 hb4 hl3 ho3)
    | (refine store_abs2 (by rfl) 29 (.tmp 6) (.tmp 13) (by rfl) (by rfl) w4.heap.size (vals .u8 si) (by rfl) (by rfl) 29 (vals .u8 Z32) (Has.new' _ rfl _ _) (by rw [vals_size, SIL.out]; kernel_rfl) (by rw [vals_size, vals_size, SIL.out]; rfl) vals_one ?_
       intro w5 hS5 hkeep hbg
       have hbe := ((Below.refl w4.heap.size w4).alloc (Nat.le_refl _) (.cells (vals .u8 Z32) 29)).trans hbg
       have hR5 := hR4.keep hbe
       have hK5 := hK4.keep hbe hl4
       have hbb5 := hbb4.trans (hbe.mono hbb4.size)
       have hl5 := Nat.le_trans hl4 hbe.size
       have hs5 := hS5.lt
       clear hkeep hbg hbe hR4 hK4 hbb4))
  refine wp_front [0, 2] [1, 3, 4, 5] (by kernel_rfl) (by rfl) (by kernel_rfl) (by kernel_rfl) (fun _ _ d _ _ h => by cases d <;> exact h) ?_
  simp only [List.filterMap_cons, List.filterMap_nil, List.getElem?_cons_zero, List.getElem?_cons_succ]
  refine ⟨_, Or.inl ⟨by rfl, fun w => (by go_simp; with_reducible rfl)⟩, ?_⟩
  simp only [Act.put, List.setIfInBounds_toArray, List.set_cons_zero, List.set_cons_succ]
  refine ⟨_, Or.inl ⟨by rfl, fun w => (by go_simp; with_reducible rfl)⟩, ?_⟩
  simp only [Act.put, List.setIfInBounds_toArray, List.set_cons_zero, List.set_cons_succ]
  change wpList _ _ _ _ _ _
  refine wpList_own (by rfl) ?_
  have hS6 := hS5.drew
  have hR6 := hR5.drew
  have hbd : Below w5.heap.size w5 w5.drew := ⟨rfl, rfl, rfl, Nat.le_refl _, fun _ _ => rfl⟩
  have hK6 := hK5.keep hbd hl5
  have hbb6 := hbb5.trans (hbd.mono hbb5.size)
  have hl6 := Nat.le_trans hl5 hbd.size
  clear hS5 hR5 hK5 hbb5 hl5 hs5 hbd
  generalize w5.drew = w6 at *
  go_wp2_with (first
    | (go_at_call 21
       refine (refLess_c A1 64 c1 bl 92 w1.heap.size w6 hK6 hl6 (by omega)).mono ?_
       rintro e w7 ⟨A7, c7, rfl, ho7, hb7⟩
       have hR7 := hR6.keep hb7
       have hS7 := hS6.keep hb7
       have hg6 := hS6.lt
       have hbb7 := hbb6.trans (hb7.mono hbb6.size)
       have hl7 := hb7.size
       have hX7 : Rd w7 w6.heap.size (some ⟨w4.heap.size, 0, none⟩) 32 .u8 si := Rd.of_has hS7 hg6 (by rw [List.drop_zero, List.take_of_length_le (by rw [SIL.out]; omega)]) (by rw [SIL.out]; omega)
       have hg7 : w.heap.size < w6.heap.size := by omega
       clear hR6 hS6 hb7 hK6 hS7
       dsimp only
       refine ‹∀ (a : Act) (w : World), wpList _ _ _ _ a w → _› _ _ ?_
       refine append_abs (by rfl) (.tmp 15) (.tmp 16) 23 (by rfl) w6.heap.size 5 .u8 1 Try.underlying23 u8Elem A7 64 c7 (lessL 92 bl) (by rfl) ho7 w6.heap.size (some ⟨w4.heap.size, 0, none⟩) 32 32 si (by rfl) hX7 96 (by rfl) lo HLO.out (by omega) (by unfold maxLen; omega) hl7 ?_
       intro A8 c8 w8 ho8 hb8
       have hR8 := hR7.below hb8 hg7
       have hbb8 := hbb7.trans (hb8.mono hbb6.size)
       clear hR7 hX7 hb8 ho7 hbb7)
    | (go_at_call 20
       refine (refSum_c A8 96 c8 lo w8.heap.size w8 ho8.rd BLO.out (Nat.le_refl _) (by omega)).mono ?_
       rintro e w9 ⟨rfl, hb9⟩
       rw [HSO.out]
       have hR9 := hR8.keep hb9
       have hbb9 := hbb8.trans (hb9.mono hbb8.size)
       clear hR8 hb9 hbb8 ho8
       dsimp only
       refine ‹∀ (a : Act) (w : World), wpList _ _ _ _ a w → _› _ _ ?_
       refine wpList_store_rowTo (by rfl) 29 (.tmp 4) (.tmp 18) (by rfl) (by rfl) w.heap.size (vals .u8 so) (by rfl) (by rfl) _ _ hR9.eq (by rw [vals_size, SOL.out]; kernel_rfl) (by rw [vals_size, vals_size, SOL.out]; rfl) vals_one ?_))
  rw [MAC.out]
  refine bodyPost_ret (v := .agg (vals .u8 so)) (results_cell_row rfl _ _ w.heap.size _ _ _ _ rfl (hR9.row _).eq Try.underlying29 rfl (by rw [vals_size, SOL.out]; kernel_rfl)) rfl ⟨rfl, below_row hbb9 (Nat.le_refl _) _⟩
end Go.Proofs.Ytkjbfkhiijnemaa.Hk
