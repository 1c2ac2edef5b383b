/-
  Own text. The contract of layer 2's reference for bytes that are made of a key.
-/
import Derived.Test.YtkjbfkhiijnemaaHkMac
import Derived.Test.YtkjbfkhiijnemaaMemB
namespace Go.Proofs.Ytkjbfkhiijnemaa.Hk
open Go Go.RowKit Go.Proofs.Ytkjbfkhiijnemaa.Reg Go.Proofs.Ytkjbfkhiijnemaa.Sha

set_option maxRecDepth 100000 in
set_option maxHeartbeats 1000000 in
theorem refExpand_no (a1 a2 : Value) (m : Int) (w : World) (hm : m < 0 ∨ 8160 < m) :
    Calls Try.prog 11 #[a1, a2, .int .i64 m] w fun e w' => e = .returned (.tuple #[.slice none 0 0, .int .i64 20]) ∧ Below w.heap.size w w' := by
  rcases hm with hm | hm
  · go_enter Try.func11, Try.ntmps11
    go_wp2
    go_ret2
    exact ⟨rfl, Below.refl _ _⟩
  · have hm0 : ¬ m < 0 := by omega
    go_enter Try.func11, Try.ntmps11
    go_wp2
    go_ret2
    exact ⟨rfl, Below.refl _ _⟩

set_option maxRecDepth 100000 in
set_option maxHeartbeats 2000000 in
theorem refExpand_c (A : Option Addr) (n c : Nat) (key : List Int) (A' : Option Addr) (n' c' : Nat) (info : List Int) (m : Nat) (B : Nat) (w : World) (hr : Rd w B A n .u8 key) (hby : Bytes key) (hr' : Rd w B A' n' .u8 info) (hby' : Bytes info) (hB : B ≤ w.heap.size) (hn : n ≤ 1000) (hn' : n' ≤ 1000) (hm : m ≤ 8160) :
    Calls Try.prog 11 #[.slice A n c, .slice A' n' c', .int .i64 m] w fun e w' => ∃ A'' c'', e = .returned (.tuple #[.slice A'' m c'', .int .i64 0]) ∧ Rd w' w'.heap.size A'' m .u8 (expandL key info m) ∧ m ≤ c'' ∧ Below w.heap.size w w' := by
  have LN : Keep _ := ⟨hr.len⟩
  have LN' : Keep _ := ⟨hr'.len⟩
  have BY : Keep _ := ⟨hby⟩
  have BY' : Keep _ := ⟨hby'⟩
  clear hby hby'
  go_enter Try.func11, Try.ntmps11
  go_wp2
  go_loopw [8, 9, 10] (fun vo vl vi wr => ∃ (j : Nat) (Ao Al : Option Addr) (co nl cl : Nat), 32 * j ≤ m + 31 ∧ vi = .int .i64 ((j + 1 : Nat) : Int) ∧ vo = .slice Ao (32 * j) co ∧ vl = .slice Al nl cl ∧ Own wr w.heap.size 5 .u8 Ao (32 * j) co (rowL key info j) ∧ Rd wr wr.heap.size Al nl .u8 (chainL key info j) ∧ Below w.heap.size w wr) (fun vo _ _ _ => m - lenOf vo)
  case atStart => exact ⟨0, none, none, 0, 0, 0, by omega, rfl, rfl, rfl, own_none _ _ _ _, Rd.nil_, Below.refl _ _⟩
  case round =>
    obtain ⟨j, Ao, Al, co, nl, cl, hj, rfl, rfl, rfl, ho5, hl5, hb5⟩ := hrel
    by_cases hlt : 32 * j < m
    · have hr5 := hr.keep hb5 hB
      have hs5 := hr'.keep hb5 hB
      have hB5 := Nat.le_trans hB hb5.size
      have hnl : nl ≤ 32 := by have := hl5.len; have := chainL_le key info j; omega
      generalize wr = w5 at *
      obtain ⟨ta, hta⟩ : ∃ ta, chainL key info j ++ info ++ [((j + 1 : Nat) : Int) % 256] = ta := ⟨_, rfl⟩
      obtain ⟨tt, htt⟩ : ∃ tt, chainL key info (j + 1) = tt := ⟨_, rfl⟩
      have hmac : macL key ta = tt := by rw [← htt, ← hta, chainL]
      have htl : tt.length = 32 := by rw [← htt]; exact chainL_len _ _ _
      have htb : Bytes ta := by
        rw [← hta]
        exact bytes_append (bytes_append (chainL_bytes _ _ _) BY'.out) (bytes_one (by omega) (by omega))
      have hrow : rowL key info j ++ tt = rowL key info (j + 1) := by rw [← htt]; rfl
      rw [show ((j + 1 : Nat) : Int) % 256 = (j : Int) + 1 by omega] at hta
      have TA : Keep _ := ⟨hta⟩
      have TT : Keep _ := ⟨htt⟩
      have MAC : Keep _ := ⟨hmac⟩
      have TL : Keep _ := ⟨htl⟩
      have TB : Keep _ := ⟨htb⟩
      have ROW : Keep _ := ⟨hrow⟩
      have hog : ∀ g, Ao = some ⟨g, 0, none⟩ → g < w5.heap.size := fun g hg => ho5.block_lt hg
      have HOG : Keep _ := ⟨hog⟩
      clear hta htt hmac htl htb hrow hr hr' hog
      go_wp2_with (first
        | (refine append_abs (by rfl) (.tmp 25) (.tmp 26) 23 (by rfl) w5.heap.size 5 .u8 1 Try.underlying23 u8Elem (some ⟨w5.heap.size, 0, none⟩) 0 0 [] (by rfl) (Own.of_has (Has.new w5 5 (vals .u8 [])) (Nat.le_refl _) (Nat.zero_le _)) w5.heap.size Al nl cl (chainL key info j) (by rfl) (hl5.keep ((Below.refl w5.heap.size w5).alloc (Nat.le_refl _) _) (Nat.le_refl _)) nl (Nat.zero_add nl) (chainL key info j) (by rfl) (by omega) (by unfold maxLen; omega) (by simp) ?_
           intro A6 c6 w6 ho6 hb6
           have hb6' := ((Below.refl w5.heap.size w5).alloc (Nat.le_refl _) (.cells (vals .u8 []) 5)).trans hb6
           have hr6 := hr5.keep hb6' hB5
           have hs6 := hs5.keep hb6' hB5
           clear hb6 hr5 hs5)
        | (refine append_abs (by rfl) (.tmp 27) (.tmp 28) 23 (by rfl) w5.heap.size 5 .u8 1 Try.underlying23 u8Elem A6 nl c6 (chainL key info j) (by rfl) ho6 B A' n' c' info (by rfl) hs6 (nl + n') (by rfl) (chainL key info j ++ info) (by rfl) (by omega) (by unfold maxLen; omega) hb6'.size ?_
           intro A7 c7 w7 ho7 hb7
           have hb7' := hb6'.trans hb7
           have hr7 := hr6.keep hb7 hB5
           clear hb7 hb6' hr6 hs6 ho6)
        | (refine append_abs (by rfl) (.tmp 29) (.tmp 32) 23 (by rfl) w5.heap.size 5 .u8 1 Try.underlying23 u8Elem A7 (nl + n') c7 (chainL key info j ++ info) (by rfl) (ho7.keep ((Below.refl _ _).alloc (Nat.le_refl _) _)) (w7.heap.size + 1) (some ⟨w7.heap.size, 0, none⟩) 1 1 [(j : Int) + 1] (by rfl) (Rd.of_has (Has.new w7 5 (vals .u8 [(j : Int) + 1])) (by omega) (by rfl) (by simp)) (nl + n' + 1) (by rfl) ta TA.out (by omega) (by unfold maxLen; omega) (by have := hb7'.size; simp; omega) ?_
           intro A8 c8 w8 ho8 hb8
           have hb8' := (hb7'.alloc hb7'.size (.cells (vals .u8 [(j : Int) + 1]) 5)).trans hb8
           have hr8 := (hr7.keep ((Below.refl w7.heap.size w7).alloc (Nat.le_refl _) (.cells (vals .u8 [(j : Int) + 1]) 5)) (Nat.le_trans hB5 hb7'.size)).keep hb8 hB5
           clear hb8 hb7' hr7 ho7)
        | (go_at_call 14
           refine (refMac_c A n c key A8 (nl + n' + 1) c8 ta w8.heap.size w8 (hr8.more (Nat.le_trans hB5 hb8'.size)) BY.out ho8.rd TB.out (Nat.le_refl _) (by omega) (by omega)).mono ?_
           rintro e w9 ⟨rfl, hb9⟩
           rw [MAC.out]
           have hb9' := hb8'.trans (hb9.mono hb8'.size)
           clear hb9 hb8' hr8 ho8)
        | (refine store_abs2 (by rfl) 29 (.tmp 11) (.tmp 34) (by rfl) (by rfl) w9.heap.size (vals .u8 tt) (by rfl) (by rfl) 29 (vals .u8 Z32) (Has.new' _ rfl _ _) (by rw [vals_size, TL.out]; kernel_rfl) (by rw [vals_size, vals_size, TL.out]; rfl) vals_one ?_
           intro w10 hS10 hkeep hbg
           have hb10 := hb9'.trans ((((Below.refl w9.heap.size w9).alloc (Nat.le_refl _) (.cells (vals .u8 Z32) 29)).trans hbg).mono hb9'.size)
           clear hkeep hbg hb9')
        | (refine append_abs (by rfl) (.tmp 35) (.tmp 36) 23 (by rfl) w10.heap.size 5 .u8 1 Try.underlying23 u8Elem (some ⟨w10.heap.size, 0, none⟩) 0 0 [] (by rfl) (Own.of_has (Has.new w10 5 (vals .u8 [])) (Nat.le_refl _) (Nat.zero_le _)) w10.heap.size (some ⟨w9.heap.size, 0, none⟩) 32 32 tt (by rfl) ((Rd.of_has hS10 hS10.lt (by rw [List.drop_zero, List.take_of_length_le (by rw [TL.out]; omega)]) (by rw [TL.out]; omega)).keep ((Below.refl w10.heap.size w10).alloc (Nat.le_refl _) _) (Nat.le_refl _)) 32 (Nat.zero_add 32) tt (by rfl) (by omega) (by unfold maxLen; omega) (by simp) ?_
           intro A11 c11 w11 ho11 hb11
           have hb11' := hb10.trans ((((Below.refl w10.heap.size w10).alloc (Nat.le_refl _) (.cells (vals .u8 []) 5)).trans hb11).mono hb10.size)
           have hg10 := hb10.size
           have hoo := ho5.keep hb11'
           clear hb11 hb10 hS10 ho5)
        | (refine append_abs2 (by rfl) (.tmp 38) (.tmp 39) 23 (by rfl) w.heap.size 5 .u8 1 Try.underlying23 u8Elem Ao (32 * j) co (rowL key info j) (by rfl) hoo w11.heap.size A11 32 c11 tt (by rfl) ho11.rd (32 * j + 32) (by rfl) (rowL key info (j + 1)) ROW.out (by omega) (by unfold maxLen; omega) (Nat.le_trans hb5.size hb11'.size) ?_
           intro A12 c12 w12 ho12 hb12 hfar
           have hb12' := (hb5.trans (hb11'.mono hb5.size)).trans hb12
           have hsz12 := hb12.size
           clear hb12))
      refine ⟨⟨j + 1, A12, A11, c12, 32, c11, by omega, by go_num, rfl, rfl, ho12, ?_, hb12'⟩, by simp [lenOf]; omega⟩
      rw [TT.out]
      exact ho11.rdFar hsz12 fun q hq hlt => hfar q hlt fun g hg => by have := HOG.out g hg; omega
    · have hcap : m ≤ co := Nat.le_trans (by omega) ho5.le_cap
      have hfin : (rowL key info j).take m = expandL key info m := by rw [expandL, show roundsOf m = j by unfold roundsOf; omega]
      go_wp2
      go_ret2
      exact ⟨Ao, co, rfl, hfin ▸ ho5.rd.take_ (by omega), hcap, hb5⟩
end Go.Proofs.Ytkjbfkhiijnemaa.Hk
