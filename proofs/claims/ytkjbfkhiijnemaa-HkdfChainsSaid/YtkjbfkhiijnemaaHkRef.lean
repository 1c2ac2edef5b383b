/-
  Own text. The contracts of the small functions of layer 2's reference.
-/
import Derived.Test.YtkjbfkhiijnemaaHkSpec
namespace Go.Proofs.Ytkjbfkhiijnemaa.Hk
open Go Go.RowKit Go.Proofs.Ytkjbfkhiijnemaa.Reg Go.Proofs.Ytkjbfkhiijnemaa.Sha

theorem own_none (w : World) (base : Nat) (e : TypeId) (k : IntKind) : Own w base e k none 0 0 [] := ⟨by simp, .inl ⟨rfl, rfl⟩⟩

set_option maxRecDepth 100000 in
set_option maxHeartbeats 1000000 in
theorem refLess_c (A : Option Addr) (n c : Nat) (b : List Int) (x : Int) (B : Nat) (w : World) (hr : Rd w B A n .u8 b) (hB : B ≤ w.heap.size) (hn : n ≤ 1000000) :
    Calls Try.prog 21 #[.slice A n c, .int .u8 x] w fun e w' => ∃ A' c', e = .returned (.slice A' n c') ∧ Own w' w.heap.size 5 .u8 A' n c' (lessL x b) ∧ Below w.heap.size w w' := by
  have LN : Keep _ := ⟨hr.len⟩
  go_enter Try.func21, Try.ntmps21
  go_wp2
  go_loopw [5, 6] (fun v i wr => ∃ (k : Nat) (A' : Option Addr) (c' : Nat), k ≤ n ∧ i = .int .i64 k ∧ v = .slice A' k c' ∧ Own wr w.heap.size 5 .u8 A' k c' (lessL x (b.take k)) ∧ Below w.heap.size w wr) (fun _ i _ => n - (intOf i).toNat)
  case atStart => exact ⟨0, none, 0, Nat.zero_le _, rfl, rfl, own_none _ _ _ _, Below.refl _ _⟩
  case round =>
    obtain ⟨k, A1, c1, hk, rfl, rfl, ho, hb⟩ := hrel
    by_cases hlt : k < n
    · obtain ⟨b1, o1, rfl, hlb1, hc1⟩ := hr.at_ (by omega)
      have hcell : wr.cell? ⟨b1, o1 + k, none⟩ = some (.int .u8 (nth b k)) := (hb.cell (p := ⟨b1, o1 + k, none⟩) (by show b1 < _; omega)).trans (hc1 k hlt)
      go_wp2_with (refine append_abs (by rfl) (.tmp 13) (.tmp 20) 23 (by rfl) w.heap.size 5 .u8 1 Try.underlying23 u8Elem A1 k c1 (lessL x (b.take k)) (by rfl) (ho.keep ((Below.refl _ _).alloc (Nat.le_refl _) _)) (wr.heap.size + 1) (some ⟨wr.heap.size, 0, none⟩) 1 1 [bits .xor .u8 (nth b k) x] (by rfl) (Rd.of_has (Has.new wr 5 (vals .u8 [bits .xor .u8 (nth b k) x])) (by omega) (by rfl) (by simp)) (k + 1) (by rfl) (lessL x (b.take (k + 1))) (lessL_succ x b (by rw [LN.out]; exact hlt)) (by omega) (by unfold maxLen; omega) (by have := hb.size; simp; omega) ?_
                   intro A2 c2 w2 ho2 hb2
                   have hbb2 := (hb.alloc hb.size (.cells (vals .u8 [bits .xor .u8 (nth b k) x]) 5)).trans hb2)
      go_roundw
      case rel => exact ⟨k + 1, A2, c2, by omega, by go_num, rfl, ho2, hbb2⟩
      case measure => simp [intOf]; omega
    · have ek : k = n := by omega
      subst ek
      go_wp2
      go_ret
      have e1 : b.take k = b := List.take_of_length_le (by rw [LN.out]; exact Nat.le_refl _)
      rw [e1] at ho
      exact ⟨A1, c1, rfl, ho, hb⟩

theorem pad_succ (l : List Int) (z : Nat) : l ++ List.replicate z 0 ++ [0] = l ++ List.replicate (z + 1) 0 := by simp [List.replicate_succ']

set_option maxRecDepth 100000 in
set_option maxHeartbeats 1000000 in
theorem refBlock_c (A : Option Addr) (n c : Nat) (key : List Int) (B : Nat) (w : World) (hr : Rd w B A n .u8 key) (hby : Bytes key) (hB : B ≤ w.heap.size) (hn : n ≤ 100000) :
    Calls Try.prog 19 #[.slice A n c] w fun e w' => ∃ A' c', e = .returned (.slice A' 64 c') ∧ Own w' w.heap.size 5 .u8 A' 64 c' (blockL key) ∧ Below w.heap.size w w' := by
  have LN : Keep _ := ⟨hr.len⟩
  have BY : Keep _ := ⟨hby⟩
  clear hby
  have HM : Keep ((keyL key).length ≤ 64) := ⟨keyL_le key⟩
  rcases Nat.lt_or_ge 64 n with hlong | hlong
  · have HK : Keep (keyL key = sumL key) := ⟨by rw [keyL, if_pos (by rw [LN.out]; exact hlong)]⟩
    obtain ⟨s, hs⟩ : ∃ s, sumL key = s := ⟨_, rfl⟩
    have hsl : s.length = 32 := hs ▸ sumL_len key
    have HS : Keep _ := ⟨hs⟩
    have SL : Keep _ := ⟨hsl⟩
    clear hs hsl
    go_enter Try.func19, Try.ntmps19
    go_wp2_with (first
      | (refine append_abs (by rfl) (.tmp 5) (.tmp 6) 23 (by rfl) w.heap.size 5 .u8 1 Try.underlying23 u8Elem (some ⟨w.heap.size, 0, none⟩) 0 0 [] (by rfl) (Own.of_has (Has.new w 5 (vals .u8 [])) (Nat.le_refl _) (Nat.zero_le _)) B A n c key (by rfl) (hr.keep ((Below.refl w.heap.size w).alloc (Nat.le_refl _) _) hB) n (Nat.zero_add n) key (by rfl) (by omega) (by unfold maxLen; omega) (by simp) ?_
         intro A1 c1 w1 ho1 hb1
         have hbb1 := ((Below.refl w.heap.size w).alloc (Nat.le_refl _) (.cells (vals .u8 []) 5)).trans hb1
         have hr1 := hr.keep hbb1 hB
         clear hb1 ho1)
      | (go_at_call 20
         refine (refSum_c A n c key B w1 hr1 BY.out (Nat.le_trans hB hbb1.size) (by omega)).mono ?_
         rintro e w2 ⟨rfl, hb2⟩
         rw [HS.out]
         have hbb2 := hbb1.trans (hb2.mono hbb1.size)
         clear hb2 hr1 hbb1)
      | (refine store_abs2 (by rfl) 29 (.tmp 4) (.tmp 12) (by rfl) (by rfl) w2.heap.size (vals .u8 s) (by rfl) (by rfl) 29 (vals .u8 Z32) (Has.new' _ rfl _ _) (by rw [vals_size, SL.out]; kernel_rfl) (by rw [vals_size, vals_size, SL.out]; rfl) vals_one ?_
         intro w3 hS3 hkeep hbg
         have hb3 := hbb2.trans ((((Below.refl w2.heap.size w2).alloc (Nat.le_refl _) (.cells (vals .u8 Z32) 29)).trans hbg).mono hbb2.size)
         clear hkeep hbg hbb2)
      | (refine append_abs (by rfl) (.tmp 13) (.tmp 14) 23 (by rfl) w.heap.size 5 .u8 1 Try.underlying23 u8Elem (some ⟨w3.heap.size, 0, none⟩) 0 0 [] (by rfl) (Own.of_has (Has.new w3 5 (vals .u8 [])) hb3.size (Nat.zero_le _)) w3.heap.size (some ⟨w2.heap.size, 0, none⟩) 32 32 s (by rfl) ((Rd.of_has hS3 hS3.lt (by rw [List.drop_zero, List.take_of_length_le (by rw [SL.out]; omega)]) (by rw [SL.out]; omega)).keep ((Below.refl w3.heap.size w3).alloc (Nat.le_refl _) _) (Nat.le_refl _)) 32 (Nat.zero_add 32) s (by rfl) (by omega) (by unfold maxLen; omega) (by have := hb3.size; simp; omega) ?_
         intro A4 c4 w4 ho4 hb4
         have hb := (hb3.alloc hb3.size (.cells (vals .u8 []) 5)).trans hb4
         rw [← HS.out, ← HK.out] at ho4
         clear hb4 hb3 hS3))
    have ML : Keep ((keyL key).length = 32) := ⟨by rw [HK.out, HS.out, SL.out]⟩
    go_loopw [3] (fun v wr => ∃ (z : Nat) (A' : Option Addr) (c' : Nat), 32 + z ≤ 64 ∧ v = .slice A' (32 + z) c' ∧ Own wr w.heap.size 5 .u8 A' (32 + z) c' (keyL key ++ List.replicate z 0) ∧ Below w.heap.size w wr) (fun v _ => 64 - lenOf v)
    case atStart => exact ⟨0, A4, c4, by omega, rfl, by simpa using ho4, hb⟩
    case round =>
      clear ho4 hb
      obtain ⟨z, A5, c5, hz, rfl, ho5, hb5⟩ := hrel
      by_cases hlt : 32 + z < 64
      · go_wp2_with (refine append_abs (by rfl) (.tmp 19) (.tmp 20) 23 (by rfl) w.heap.size 5 .u8 1 Try.underlying23 u8Elem A5 (32 + z) c5 (keyL key ++ List.replicate z 0) (by rfl) (ho5.keep ((Below.refl _ _).alloc (Nat.le_refl _) _)) (wr.heap.size + 1) (some ⟨wr.heap.size, 0, none⟩) 1 1 [0] (by rfl) (Rd.of_has (Has.new wr 5 (vals .u8 [0])) (by omega) (by rfl) (by simp)) (32 + z + 1) (by rfl) (keyL key ++ List.replicate (z + 1) 0) (pad_succ _ _) (by omega) (by unfold maxLen; omega) (by have := hb5.size; simp; omega) ?_
                     intro A6 c6 w6 ho6 hb6
                     have hbb6 := (hb5.alloc hb5.size (.cells (vals .u8 [0]) 5)).trans hb6)
        go_roundw
        case rel => exact ⟨z + 1, A6, c6, by omega, rfl, ho6, hbb6⟩
        case measure => simp [lenOf]; omega
      · have ez : 32 + z = 64 := by omega
        have eb : keyL key ++ List.replicate z 0 = blockL key := by rw [blockL, ML.out, show z = 64 - 32 by omega]
        rw [eb] at ho5
        go_wp2
        go_ret
        exact ⟨A5, c5, ret_eq (show Value.slice A5 (32 + z) c5 = _ by rw [ez]), ez ▸ ho5, hb5⟩
  · have HK : Keep (keyL key = key) := ⟨by rw [keyL, if_neg (by rw [LN.out]; omega)]⟩
    have ML : Keep ((keyL key).length = n) := ⟨by rw [HK.out, LN.out]⟩
    go_enter Try.func19, Try.ntmps19
    go_wp2_with (first
      | (refine append_abs (by rfl) (.tmp 5) (.tmp 6) 23 (by rfl) w.heap.size 5 .u8 1 Try.underlying23 u8Elem (some ⟨w.heap.size, 0, none⟩) 0 0 [] (by rfl) (Own.of_has (Has.new w 5 (vals .u8 [])) (Nat.le_refl _) (Nat.zero_le _)) B A n c key (by rfl) (hr.keep ((Below.refl w.heap.size w).alloc (Nat.le_refl _) _) hB) n (Nat.zero_add n) key (by rfl) (by omega) (by unfold maxLen; omega) (by simp) ?_
         intro A1 c1 w1 ho1 hb1
         have hb := ((Below.refl w.heap.size w).alloc (Nat.le_refl _) (.cells (vals .u8 []) 5)).trans hb1
         rw [← HK.out] at ho1
         clear hb1))
    go_loopw [3] (fun v wr => ∃ (z : Nat) (A' : Option Addr) (c' : Nat), n + z ≤ 64 ∧ v = .slice A' (n + z) c' ∧ Own wr w.heap.size 5 .u8 A' (n + z) c' (keyL key ++ List.replicate z 0) ∧ Below w.heap.size w wr) (fun v _ => 64 - lenOf v)
    case atStart => exact ⟨0, A1, c1, by omega, rfl, by simpa using ho1, hb⟩
    case round =>
      clear ho1 hb
      obtain ⟨z, A5, c5, hz, rfl, ho5, hb5⟩ := hrel
      by_cases hlt : n + z < 64
      · go_wp2_with (refine append_abs (by rfl) (.tmp 19) (.tmp 20) 23 (by rfl) w.heap.size 5 .u8 1 Try.underlying23 u8Elem A5 (n + z) c5 (keyL key ++ List.replicate z 0) (by rfl) (ho5.keep ((Below.refl _ _).alloc (Nat.le_refl _) _)) (wr.heap.size + 1) (some ⟨wr.heap.size, 0, none⟩) 1 1 [0] (by rfl) (Rd.of_has (Has.new wr 5 (vals .u8 [0])) (by omega) (by rfl) (by simp)) (n + z + 1) (by rfl) (keyL key ++ List.replicate (z + 1) 0) (pad_succ _ _) (by omega) (by unfold maxLen; omega) (by have := hb5.size; simp; omega) ?_
                     intro A6 c6 w6 ho6 hb6
                     have hbb6 := (hb5.alloc hb5.size (.cells (vals .u8 [0]) 5)).trans hb6)
        go_roundw
        case rel => exact ⟨z + 1, A6, c6, by omega, rfl, ho6, hbb6⟩
        case measure => simp [lenOf]; omega
      · have ez : n + z = 64 := by omega
        have eb : keyL key ++ List.replicate z 0 = blockL key := by rw [blockL, ML.out, show z = 64 - n by omega]
        rw [eb] at ho5
        go_wp2
        go_ret
        exact ⟨A5, c5, ret_eq (show Value.slice A5 (n + z) c5 = _ by rw [ez]), ez ▸ ho5, hb5⟩
end Go.Proofs.Ytkjbfkhiijnemaa.Hk
