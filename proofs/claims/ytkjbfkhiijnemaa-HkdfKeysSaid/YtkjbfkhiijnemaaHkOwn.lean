/-
  Own text. The contracts of package hkdf. 
-/
import Derived.Test.YtkjbfkhiijnemaaHkBlk2
namespace Go.Proofs.Ytkjbfkhiijnemaa.Hk
open Go Go.RowKit Go.Proofs.Ytkjbfkhiijnemaa.Reg Go.Proofs.Ytkjbfkhiijnemaa.Sha

set_option maxRecDepth 100000 in
set_option maxHeartbeats 1000000 in
theorem mac_c (A : Option Addr) (n c : Nat) (key : List Int) (A' : Option Addr) (n' c' : Nat) (b : List Int) (B : Nat) (w : World) (hr : Rd w B A n .u8 key) (hby : Bytes key) (hr' : Rd w B A' n' .u8 b) (hby' : Bytes b) (hB : B ≤ w.heap.size) (hn : n ≤ 100000) (hn' : n' ≤ 100000) :
    Calls Try.prog 13 #[.slice A n c, .slice A' n' c'] w fun e w' => e = .returned (.agg (vals .u8 (macL key b))) ∧ Below w.heap.size w w' := by
  obtain ⟨s, hs⟩ : ∃ s, macL key b = s := ⟨_, rfl⟩
  have HS : Keep _ := ⟨hs⟩
  have BY : Keep _ := ⟨hby⟩
  have BY' : Keep _ := ⟨hby'⟩
  rw [hs]
  clear hs hby hby'
  have SL : Keep (s.length = 32) := ⟨by rw [← HS.out]; exact macL_len _ _⟩
  obtain ⟨bl, hbl⟩ : ∃ bl, blockL key = bl := ⟨_, rfl⟩
  have HBL : Keep _ := ⟨hbl⟩
  have BLL : Keep (bl.length = 64) := ⟨hbl ▸ blockL_len key⟩
  have MB : Keep (macB bl b = s) := ⟨by rw [← hbl, macB_key]; exact HS.out⟩
  have LN' : Keep _ := ⟨hr'.len⟩
  clear hbl
  have hR0 : Has (w.alloc (.cells (vals .u8 Z32) 29)) w.heap.size 29 (vals .u8 Z32) := Has.new _ _ _
  have hb0 : Below w.heap.size w (w.alloc (.cells (vals .u8 Z32) 29)) := (Below.refl _ _).alloc (Nat.le_refl _) _
  have hr0 := hr.keep hb0 hB
  have hs0 := hr'.keep hb0 hB
  have hB0 := Nat.le_trans hB hb0.size
  clear hr hr'
  go_enter Try.func13, Try.ntmps13
  go_wp2_with (first
    | (go_at_call 17
       refine (keyBlock_c A n c key B _ hr0 BY.out hB0 hn).mono ?_
       rintro e w1 ⟨rfl, hb1⟩
       rw [HBL.out]
       have hR1 := hR0.keep hb1
       have hs1 := hs0.keep hb1 hB0
       have hbb1 := hb0.trans (hb1.mono hb0.size)
       clear hR0 hb0 hr0 hs0 hb1)
    | (go_at_call 18
       refine (blockMac_c bl BLL.out (some ⟨w1.heap.size, 0, none⟩) 1 1 [⟨A', n', c', b⟩] b (w1.heap.size + 1) _ (Lst.of_has (Has.new w1 23 _) (Nat.lt_succ_self _) rfl)
         (Parts.cons ((hs1.keep ((Below.refl w1.heap.size w1).alloc (Nat.le_refl _) _) (Nat.le_trans hB hbb1.size)).more (by have := hbb1.size; omega)) BY'.out Parts.nil) (by simp) (by omega) (by omega) (by simp [joinL]) (by rw [LN'.out]; omega)).mono ?_
       rintro e w2 ⟨rfl, hb2⟩
       rw [MB.out]
       have hb2' := ((Below.refl w1.heap.size w1).alloc (Nat.le_refl _) (.cells #[.slice A' n' c'] 23)).trans (hb2.mono (by simp))
       have hR2 := hR1.keep hb2'
       have hbb2 := hbb1.trans (hb2'.mono hbb1.size)
       dsimp only
       refine ‹∀ (a : Act) (w : World), wpList _ _ _ _ a w → _› _ _ ?_
       refine wpList_store_rowTo (by rfl) 29 (.tmp 4) (.tmp 9) (by rfl) (by rfl) w.heap.size (vals .u8 s) (by rfl) (by rfl) _ _ hR2.eq (by rw [vals_size, SL.out]; kernel_rfl) (by rw [vals_size, vals_size, SL.out]; rfl) vals_one ?_))
  refine bodyPost_ret (v := .agg (vals .u8 s)) (results_cell_row rfl _ _ w.heap.size _ _ _ _ rfl (hR2.row _).eq Try.underlying29 rfl (by rw [vals_size, SL.out]; kernel_rfl)) rfl ⟨rfl, below_row hbb2 (Nat.le_refl _) _⟩

set_option maxRecDepth 100000 in
set_option maxHeartbeats 1000000 in
theorem extract_c (A : Option Addr) (n c : Nat) (key : List Int) (A' : Option Addr) (n' c' : Nat) (b : List Int) (B : Nat) (w : World) (hr : Rd w B A n .u8 key) (hby : Bytes key) (hr' : Rd w B A' n' .u8 b) (hby' : Bytes b) (hB : B ≤ w.heap.size) (hn : n ≤ 100000) (hn' : n' ≤ 100000) :
    Calls Try.prog 15 #[.slice A n c, .slice A' n' c'] w fun e w' => e = .returned (.agg (vals .u8 (macL key b))) ∧ Below w.heap.size w w' := by
  obtain ⟨s, hs⟩ : ∃ s, macL key b = s := ⟨_, rfl⟩
  have HS : Keep _ := ⟨hs⟩
  have BY : Keep _ := ⟨hby⟩
  have BY' : Keep _ := ⟨hby'⟩
  rw [hs]
  clear hs hby hby'
  have SL : Keep (s.length = 32) := ⟨by rw [← HS.out]; exact macL_len _ _⟩
  have hR0 : Has (w.alloc (.cells (vals .u8 Z32) 29)) w.heap.size 29 (vals .u8 Z32) := Has.new _ _ _
  have hb0 : Below w.heap.size w (w.alloc (.cells (vals .u8 Z32) 29)) := (Below.refl _ _).alloc (Nat.le_refl _) _
  have hr0 := hr.keep hb0 hB
  have hs0 := hr'.keep hb0 hB
  have hB0 := Nat.le_trans hB hb0.size
  go_enter Try.func15, Try.ntmps15
  go_wp2_with (first
    | (go_at_call 13
       refine (mac_c A n c key A' n' c' b B _ hr0 BY.out hs0 BY'.out hB0 hn hn').mono ?_
       rintro e w1 ⟨rfl, hb1⟩
       rw [HS.out]
       have hR1 := hR0.keep hb1
       have hbb1 := hb0.trans (hb1.mono hb0.size)
       dsimp only
       refine ‹∀ (a : Act) (w : World), wpList _ _ _ _ a w → _› _ _ ?_
       refine wpList_store_rowTo (by rfl) 29 (.tmp 4) (.tmp 7) (by rfl) (by rfl) w.heap.size (vals .u8 s) (by rfl) (by rfl) _ _ hR1.eq (by rw [vals_size, SL.out]; kernel_rfl) (by rw [vals_size, vals_size, SL.out]; rfl) vals_one ?_))
  refine bodyPost_ret (v := .agg (vals .u8 s)) (results_cell_row rfl _ _ w.heap.size _ _ _ _ rfl (hR1.row _).eq Try.underlying29 rfl (by rw [vals_size, SL.out]; kernel_rfl)) rfl ⟨rfl, below_row hbb1 (Nat.le_refl _) _⟩

set_option maxRecDepth 100000 in
set_option maxHeartbeats 1000000 in
theorem expand_no (A : Option Addr) (n c : Nat) (A' : Option Addr) (n' c' : Nat) (m : Int) (w : World) (hm : m < 0 ∨ 8160 < m) :
    Calls Try.prog 10 #[.slice A n c, .slice A' n' c', .int .i64 m] w fun e w' => e = .returned (.tuple #[.slice none 0 0, .int .i64 20]) ∧ Below w.heap.size w w' := by
  rcases hm with hm | hm
  · go_enter Try.func10, Try.ntmps10
    go_wp2
    go_ret2
    exact ⟨rfl, Below.refl _ _⟩
  · have hm0 : ¬ m < 0 := by omega
    go_enter Try.func10, Try.ntmps10
    go_wp2
    go_ret2
    exact ⟨rfl, Below.refl _ _⟩

theorem slice_k (g k : Nat) (z : Int) (hz : z = (k : Int)) (hk : k ≤ 32) (w : World) : (Instr.sliceAt 29 (.pointer (some ⟨g, 0, none⟩)) none (some (.int .i64 z)) none).run Try.prog w = .ok (.slice (some ⟨g, 0, none⟩) k 32) w := by
  subst hz
  have h := run_sliceAt_array_h (P := Try.prog) w (t := 29) (a := ⟨g, 0, none⟩) (ht := Try.underlying29) .i64 (k : Int) (by omega) (show (k : Int) ≤ ((32 : Nat) : Int) from by omega)
  rw [h]
  rfl

set_option maxRecDepth 100000 in
set_option maxHeartbeats 2000000 in
theorem expand_c (A : Option Addr) (n c : Nat) (key : List Int) (A' : Option Addr) (n' c' : Nat) (info : List Int) (m : Nat) (B : Nat) (w : World) (hr : Rd w B A n .u8 key) (hby : Bytes key) (hr' : Rd w B A' n' .u8 info) (hby' : Bytes info) (hB : B ≤ w.heap.size) (hn : n ≤ 1000) (hn' : n' ≤ 1000) (hm : m ≤ 8160) :
    Calls Try.prog 10 #[.slice A n c, .slice A' n' c', .int .i64 m] w fun e w' => ∃ A'' c'', e = .returned (.tuple #[.slice A'' m c'', .int .i64 0]) ∧ Rd w' w'.heap.size A'' m .u8 (expandL key info m) ∧ m ≤ c'' ∧ Below w.heap.size w w' := by
  have LN : Keep _ := ⟨hr.len⟩
  have LN' : Keep _ := ⟨hr'.len⟩
  have BY : Keep _ := ⟨hby⟩
  have BY' : Keep _ := ⟨hby'⟩
  obtain ⟨bl, hbl⟩ : ∃ bl, blockL key = bl := ⟨_, rfl⟩
  have HBL : Keep _ := ⟨hbl⟩
  have BLL : Keep (bl.length = 64) := ⟨hbl ▸ blockL_len key⟩
  clear hby hby' hbl
  have hmk : ∀ w, (Instr.makeSlice 23 (.int .i64 0) (.int .i64 m)).run Try.prog w = .ok (.slice (some ⟨w.heap.size, 0, none⟩) 0 m) (w.alloc (.cells (vals .u8 (List.replicate m 0)) 5)) := fun w => run_make_cap w _ _ .u8 Try.underlying23 u8Elem .i64 .i64 m (by omega) (by omega)
  go_enter Try.func10, Try.ntmps10
  go_wp2_with (first
    | (go_at_call 17
       refine (keyBlock_c A n c key B _ hr BY.out hB (by omega)).mono ?_
       rintro e w1 ⟨rfl, hb1⟩
       rw [HBL.out])
    | (refine store_abs2 (by rfl) 34 (.tmp 8) (.tmp 20) (by rfl) (by rfl) w1.heap.size (vals .u8 bl) (by rfl) (by rfl) 34 (vals .u8 (List.replicate 64 0)) (Has.new' _ rfl _ _) (by rw [vals_size, BLL.out]; kernel_rfl) (by rw [vals_size, vals_size, BLL.out]; rfl) vals_one ?_
       intro w2 hK2 hkeep hbg
       have hb2 := hb1.trans ((((Below.refl w1.heap.size w1).alloc (Nat.le_refl _) (.cells (vals .u8 (List.replicate 64 0)) 34)).trans hbg).mono hb1.size)
       clear hkeep hbg))
  have HMK : Keep _ := ⟨hmk⟩
  clear hmk
  have hb3 := hb2.alloc hb2.size (.cells (vals .u8 (List.replicate m 0)) 5)
  have hK3 := hK2.alloc (.cells (vals .u8 (List.replicate m 0)) 5)
  have ho3 : Own (w2.alloc (.cells (vals .u8 (List.replicate m 0)) 5)) w2.heap.size 5 .u8 (some ⟨w2.heap.size, 0, none⟩) 0 m [] := Own.of_made (Has.new _ _ _) (Nat.le_refl _) (by unfold maxLen; omega)
  have hbl3 : Below w2.heap.size w2 (w2.alloc (.cells (vals .u8 (List.replicate m 0)) 5)) := (Below.refl _ _).alloc (Nat.le_refl _) _
  generalize w2.alloc (.cells (vals .u8 (List.replicate m 0)) 5) = w3 at *
  go_loopw [9, 10, 11] (fun vm va vi wr => ∃ (j L : Nat) (Am Aa : Option Addr) (cm na ca : Nat), 32 * j ≤ m + 31 ∧ Keep (L = min (32 * j) m) ∧ vi = .int .i64 ((j + 1 : Nat) : Int) ∧ vm = .slice Am L cm ∧ va = .slice Aa na ca ∧ Own wr w2.heap.size 5 .u8 Am L cm ((rowL key info j).take m) ∧ Rd wr wr.heap.size Aa na .u8 (chainL key info j) ∧ Below w2.heap.size w2 wr) (fun vm _ _ _ => m - lenOf vm)
  case atStart => exact ⟨0, 0, some ⟨w2.heap.size, 0, none⟩, none, m, 0, 0, by omega, ⟨by simp⟩, rfl, rfl, rfl, by simpa [rowL] using ho3, Rd.nil_, hbl3⟩
  case round =>
    clear ho3 hbl3 hb3 hK3
    obtain ⟨j, L, Am, Aa, cm, na, ca, hj, HL, rfl, rfl, rfl, ho5, hl5, hb5⟩ := hrel
    by_cases hlt : 32 * j < m
    · obtain rfl : L = 32 * j := by rw [HL.out]; omega
      have hK5 := hK2.keep hb5
      have hs5 := (hr'.keep hb2 hB).keep hb5 (Nat.le_trans hB hb2.size)
      have hBw : B ≤ w2.heap.size := Nat.le_trans hB hb2.size
      have hna : na ≤ 32 := by have := hl5.len; have := chainL_le key info j; omega
      generalize wr = w5 at *
      rcases Nat.lt_or_ge (m - 32 * j) 32 with hc | hc
      · obtain ⟨k, hk⟩ : ∃ k, k = min 32 (m - 32 * j) := ⟨_, rfl⟩
        have hk32 : k ≤ 32 := by omega
        obtain ⟨N, hN⟩ : ∃ N, 32 * j + k = N := ⟨_, rfl⟩
        have HN : Keep (N = min (32 * (j + 1)) m) := ⟨by omega⟩
        have HNB : Keep (N ≤ 8160 ∧ 32 * j < N) := ⟨by omega⟩
        have hmi : (m : Int) - 32 * (j : Int) < 32 := by omega
        have hsl := fun g => slice_k g k ((m : Int) - 32 * (j : Int)) (by omega) hk32
        have KV : Keep (k = m - 32 * j) := ⟨by omega⟩
        clear hk hc
        obtain ⟨ta, hta⟩ : ∃ ta, chainL key info j ++ info ++ [((j + 1 : Nat) : Int) % 256] = ta := ⟨_, rfl⟩
        obtain ⟨tt, htt⟩ : ∃ tt, chainL key info (j + 1) = tt := ⟨_, rfl⟩
        have hmac : macB bl ta = tt := by rw [← htt, ← hta, chainL, ← macB_key, HBL.out]
        have htl : tt.length = 32 := by rw [← htt]; exact chainL_len _ _ _
        have htal : ta.length = na + n' + 1 := by rw [← hta, List.length_append, List.length_append, hl5.len, LN'.out]; rfl
        have hrow : (rowL key info j).take m ++ tt.take k = (rowL key info (j + 1)).take m := by
          rw [rowL, htt, List.take_append, rowL_len, List.take_eq_take_iff.2 (show min k tt.length = min (m - 32 * j) tt.length by have := KV.out; omega)]
        rw [show ((j + 1 : Nat) : Int) % 256 = (j : Int) + 1 by omega] at hta
        have TA : Keep _ := ⟨hta⟩
        have TT : Keep _ := ⟨htt⟩
        have MAC : Keep _ := ⟨hmac⟩
        have TL : Keep _ := ⟨htl⟩
        have TAL : Keep _ := ⟨htal⟩
        have ROW : Keep _ := ⟨hrow⟩
        have B1 : Keep (Bytes (chainL key info j)) := ⟨chainL_bytes _ _ _⟩
        have B3 : Keep (Bytes [(j : Int) + 1]) := ⟨bytes_one (by omega) (by omega)⟩
        have HOG : Keep _ := ⟨fun g hg => ho5.block_lt (g := g) hg⟩
        have hwx : Below w5.heap.size w5 ((w5.alloc (.cells #[.int .u8 ((j : Int) + 1)] 5)).alloc (.cells #[.slice Aa na ca, .slice A' n' c', .slice (some ⟨w5.heap.size, 0, none⟩) 1 1] 23)) := ((Below.refl _ _).alloc (Nat.le_refl _) _).alloc (by simp) _
        have hx1 : Has ((w5.alloc (.cells #[.int .u8 ((j : Int) + 1)] 5)).alloc (.cells #[.slice Aa na ca, .slice A' n' c', .slice (some ⟨w5.heap.size, 0, none⟩) 1 1] 23)) w5.heap.size 5 (vals .u8 [(j : Int) + 1]) := (Has.new _ _ _).alloc _
        have hx2 : Has ((w5.alloc (.cells #[.int .u8 ((j : Int) + 1)] 5)).alloc (.cells #[.slice Aa na ca, .slice A' n' c', .slice (some ⟨w5.heap.size, 0, none⟩) 1 1] 23)) (w5.heap.size + 1) 23 #[.slice Aa na ca, .slice A' n' c', .slice (some ⟨w5.heap.size, 0, none⟩) 1 1] := Has.new' _ (by simp) _ _
        have hxr1 : Rd ((w5.alloc (.cells #[.int .u8 ((j : Int) + 1)] 5)).alloc (.cells #[.slice Aa na ca, .slice A' n' c', .slice (some ⟨w5.heap.size, 0, none⟩) 1 1] 23)) (w5.heap.size + 2) (some ⟨w5.heap.size, 0, none⟩) 1 .u8 [(j : Int) + 1] := Rd.of_has hx1 (by omega) rfl (by simp)
        have hXP := Parts.cons (p := ⟨Aa, na, ca, chainL key info j⟩) ((hl5.keep hwx (Nat.le_refl _)).more (by omega : w5.heap.size ≤ w5.heap.size + 2)) B1.out (Parts.cons (p := ⟨A', n', c', info⟩) ((hs5.keep hwx (Nat.le_trans hBw hb5.size)).more (by have := hb5.size; omega)) BY'.out (Parts.cons (p := ⟨some ⟨w5.heap.size, 0, none⟩, 1, 1, [(j : Int) + 1]⟩) hxr1 B3.out Parts.nil))
        have hXL : Lst ((w5.alloc (.cells #[.int .u8 ((j : Int) + 1)] 5)).alloc (.cells #[.slice Aa na ca, .slice A' n' c', .slice (some ⟨w5.heap.size, 0, none⟩) 1 1] 23)) (w5.heap.size + 2) (some ⟨w5.heap.size + 1, 0, none⟩) 3 ([⟨Aa, na, ca, chainL key info j⟩, ⟨A', n', c', info⟩, ⟨some ⟨w5.heap.size, 0, none⟩, 1, 1, [(j : Int) + 1]⟩].map Part.val) := Lst.of_has hx2 (by omega) rfl
        have XJ : Keep (joinL [⟨Aa, na, ca, chainL key info j⟩, ⟨A', n', c', info⟩, ⟨some ⟨w5.heap.size, 0, none⟩, 1, 1, [(j : Int) + 1]⟩] = ta) := ⟨by simp [joinL, ← TA.out]⟩
        clear hta htt hmac htl htal hrow hr hr' hs5 hl5 hx1 hx2 hxr1 hK2
        go_wp2_with (first
          | (refine wpList_load_row rfl 34 (.tmp 8) rfl w1.heap.size rfl _ _ _ _ hK5.eq Try.underlying34 rfl (by rw [vals_size, BLL.out]; kernel_rfl) ?_)
          | (go_at_call 18
             refine (blockMac_c bl BLL.out (some ⟨w5.heap.size + 1, 0, none⟩) 3 3 _ ta (w5.heap.size + 2) _ hXL hXP (by simp) (by omega) (by omega) XJ.out (by rw [TAL.out]; omega)).mono ?_
             rintro e w9 ⟨rfl, hb9⟩
             rw [MAC.out]
             have hb9' := hwx.trans (hb9.mono (by simp <;> omega))
             clear hb9 hwx hXL hXP)
          | (refine store_abs2 (by rfl) 29 (.tmp 12) (.tmp 36) (by rfl) (by rfl) w9.heap.size (vals .u8 tt) (by rfl) (by rfl) 29 (vals .u8 Z32) (Has.new' _ rfl _ _) (by rw [vals_size, TL.out]; kernel_rfl) (by rw [vals_size, vals_size, TL.out]; rfl) vals_one ?_
             intro w10 hS10 hkeep hbg
             have hb10 := hb9'.trans ((((Below.refl w9.heap.size w9).alloc (Nat.le_refl _) (.cells (vals .u8 Z32) 29)).trans hbg).mono hb9'.size)
             have hoo := ho5.keep hb10
             have hg9 := hb9'.size
             have hs10 := hS10.lt
             have hRT : Rd w10 w10.heap.size (some ⟨w9.heap.size, 0, none⟩) k .u8 (tt.take k) := Rd.of_has hS10 hs10 (by rw [List.drop_zero]) (by rw [TL.out]; omega)
             have hbb10 := hb5.trans (hb10.mono hb5.size)
             clear hkeep hbg hb9' ho5 hb10 hb5)
          | (refine append_abs2 (by rfl) (.tmp 37) (.tmp 43) 23 (by rfl) w2.heap.size 5 .u8 1 Try.underlying23 u8Elem Am (32 * j) cm ((rowL key info j).take m) (by rfl) hoo w10.heap.size (some ⟨w9.heap.size, 0, none⟩) k 32 (tt.take k) (by rfl) hRT N hN ((rowL key info (j + 1)).take m) ROW.out (by have := HNB.out; omega) (by have := HNB.out; unfold maxLen; omega) hbb10.size ?_
             intro A12 c12 w12 ho12 hb12 hfar
             have hb12' := hbb10.trans hb12
             have hS12 : Has w12 w9.heap.size 29 (vals .u8 tt) := ⟨(hfar _ hs10 (fun g hg => by have := HOG.out g hg; omega)).trans hS10.eq⟩
             clear hb12 hRT hoo hfar))
        refine ⟨⟨j + 1, N, A12, some ⟨w9.heap.size, 0, none⟩, c12, 32, 32, by omega, HN, by go_num, rfl, rfl, ho12, ?_, hb12'⟩, by have := HNB.out; simp [lenOf]; omega⟩
        rw [TT.out]
        exact Rd.of_has hS12 hS12.lt (by rw [List.drop_zero, List.take_of_length_le (by rw [TL.out]; omega)]) (by rw [TL.out]; omega)
      · obtain ⟨k, hk⟩ : ∃ k, k = min 32 (m - 32 * j) := ⟨_, rfl⟩
        have hk32 : k ≤ 32 := by omega
        obtain ⟨N, hN⟩ : ∃ N, 32 * j + k = N := ⟨_, rfl⟩
        have HN : Keep (N = min (32 * (j + 1)) m) := ⟨by omega⟩
        have HNB : Keep (N ≤ 8160 ∧ 32 * j < N) := ⟨by omega⟩
        obtain rfl : k = 32 := by omega
        have hmi : ¬ (m : Int) - 32 * (j : Int) < 32 := by omega
        have KV : Keep (32 ≤ m - 32 * j) := ⟨by omega⟩
        clear hk hc
        obtain ⟨ta, hta⟩ : ∃ ta, chainL key info j ++ info ++ [((j + 1 : Nat) : Int) % 256] = ta := ⟨_, rfl⟩
        obtain ⟨tt, htt⟩ : ∃ tt, chainL key info (j + 1) = tt := ⟨_, rfl⟩
        have hmac : macB bl ta = tt := by rw [← htt, ← hta, chainL, ← macB_key, HBL.out]
        have htl : tt.length = 32 := by rw [← htt]; exact chainL_len _ _ _
        have htal : ta.length = na + n' + 1 := by rw [← hta, List.length_append, List.length_append, hl5.len, LN'.out]; rfl
        have hrow : (rowL key info j).take m ++ tt.take 32 = (rowL key info (j + 1)).take m := by
          rw [rowL, htt, List.take_append, rowL_len, List.take_eq_take_iff.2 (show min 32 tt.length = min (m - 32 * j) tt.length by have := KV.out; omega)]
        rw [show ((j + 1 : Nat) : Int) % 256 = (j : Int) + 1 by omega] at hta
        have TA : Keep _ := ⟨hta⟩
        have TT : Keep _ := ⟨htt⟩
        have MAC : Keep _ := ⟨hmac⟩
        have TL : Keep _ := ⟨htl⟩
        have TAL : Keep _ := ⟨htal⟩
        have ROW : Keep _ := ⟨hrow⟩
        have B1 : Keep (Bytes (chainL key info j)) := ⟨chainL_bytes _ _ _⟩
        have B3 : Keep (Bytes [(j : Int) + 1]) := ⟨bytes_one (by omega) (by omega)⟩
        have HOG : Keep _ := ⟨fun g hg => ho5.block_lt (g := g) hg⟩
        have hwx : Below w5.heap.size w5 ((w5.alloc (.cells #[.int .u8 ((j : Int) + 1)] 5)).alloc (.cells #[.slice Aa na ca, .slice A' n' c', .slice (some ⟨w5.heap.size, 0, none⟩) 1 1] 23)) := ((Below.refl _ _).alloc (Nat.le_refl _) _).alloc (by simp) _
        have hx1 : Has ((w5.alloc (.cells #[.int .u8 ((j : Int) + 1)] 5)).alloc (.cells #[.slice Aa na ca, .slice A' n' c', .slice (some ⟨w5.heap.size, 0, none⟩) 1 1] 23)) w5.heap.size 5 (vals .u8 [(j : Int) + 1]) := (Has.new _ _ _).alloc _
        have hx2 : Has ((w5.alloc (.cells #[.int .u8 ((j : Int) + 1)] 5)).alloc (.cells #[.slice Aa na ca, .slice A' n' c', .slice (some ⟨w5.heap.size, 0, none⟩) 1 1] 23)) (w5.heap.size + 1) 23 #[.slice Aa na ca, .slice A' n' c', .slice (some ⟨w5.heap.size, 0, none⟩) 1 1] := Has.new' _ (by simp) _ _
        have hxr1 : Rd ((w5.alloc (.cells #[.int .u8 ((j : Int) + 1)] 5)).alloc (.cells #[.slice Aa na ca, .slice A' n' c', .slice (some ⟨w5.heap.size, 0, none⟩) 1 1] 23)) (w5.heap.size + 2) (some ⟨w5.heap.size, 0, none⟩) 1 .u8 [(j : Int) + 1] := Rd.of_has hx1 (by omega) rfl (by simp)
        have hXP := Parts.cons (p := ⟨Aa, na, ca, chainL key info j⟩) ((hl5.keep hwx (Nat.le_refl _)).more (by omega : w5.heap.size ≤ w5.heap.size + 2)) B1.out (Parts.cons (p := ⟨A', n', c', info⟩) ((hs5.keep hwx (Nat.le_trans hBw hb5.size)).more (by have := hb5.size; omega)) BY'.out (Parts.cons (p := ⟨some ⟨w5.heap.size, 0, none⟩, 1, 1, [(j : Int) + 1]⟩) hxr1 B3.out Parts.nil))
        have hXL : Lst ((w5.alloc (.cells #[.int .u8 ((j : Int) + 1)] 5)).alloc (.cells #[.slice Aa na ca, .slice A' n' c', .slice (some ⟨w5.heap.size, 0, none⟩) 1 1] 23)) (w5.heap.size + 2) (some ⟨w5.heap.size + 1, 0, none⟩) 3 ([⟨Aa, na, ca, chainL key info j⟩, ⟨A', n', c', info⟩, ⟨some ⟨w5.heap.size, 0, none⟩, 1, 1, [(j : Int) + 1]⟩].map Part.val) := Lst.of_has hx2 (by omega) rfl
        have XJ : Keep (joinL [⟨Aa, na, ca, chainL key info j⟩, ⟨A', n', c', info⟩, ⟨some ⟨w5.heap.size, 0, none⟩, 1, 1, [(j : Int) + 1]⟩] = ta) := ⟨by simp [joinL, ← TA.out]⟩
        clear hta htt hmac htl htal hrow hr hr' hs5 hl5 hx1 hx2 hxr1 hK2
        go_wp2_with (first
          | (refine wpList_load_row rfl 34 (.tmp 8) rfl w1.heap.size rfl _ _ _ _ hK5.eq Try.underlying34 rfl (by rw [vals_size, BLL.out]; kernel_rfl) ?_)
          | (go_at_call 18
             refine (blockMac_c bl BLL.out (some ⟨w5.heap.size + 1, 0, none⟩) 3 3 _ ta (w5.heap.size + 2) _ hXL hXP (by simp) (by omega) (by omega) XJ.out (by rw [TAL.out]; omega)).mono ?_
             rintro e w9 ⟨rfl, hb9⟩
             rw [MAC.out]
             have hb9' := hwx.trans (hb9.mono (by simp <;> omega))
             clear hb9 hwx hXL hXP)
          | (refine store_abs2 (by rfl) 29 (.tmp 12) (.tmp 36) (by rfl) (by rfl) w9.heap.size (vals .u8 tt) (by rfl) (by rfl) 29 (vals .u8 Z32) (Has.new' _ rfl _ _) (by rw [vals_size, TL.out]; kernel_rfl) (by rw [vals_size, vals_size, TL.out]; rfl) vals_one ?_
             intro w10 hS10 hkeep hbg
             have hb10 := hb9'.trans ((((Below.refl w9.heap.size w9).alloc (Nat.le_refl _) (.cells (vals .u8 Z32) 29)).trans hbg).mono hb9'.size)
             have hoo := ho5.keep hb10
             have hg9 := hb9'.size
             have hs10 := hS10.lt
             have hRT : Rd w10 w10.heap.size (some ⟨w9.heap.size, 0, none⟩) 32 .u8 (tt.take 32) := Rd.of_has hS10 hs10 (by rw [List.drop_zero]) (by rw [TL.out]; omega)
             have hbb10 := hb5.trans (hb10.mono hb5.size)
             clear hkeep hbg hb9' ho5 hb10 hb5)
          | (refine append_abs2 (by rfl) (.tmp 37) (.tmp 43) 23 (by rfl) w2.heap.size 5 .u8 1 Try.underlying23 u8Elem Am (32 * j) cm ((rowL key info j).take m) (by rfl) hoo w10.heap.size (some ⟨w9.heap.size, 0, none⟩) 32 32 (tt.take 32) (by rfl) hRT N hN ((rowL key info (j + 1)).take m) ROW.out (by have := HNB.out; omega) (by have := HNB.out; unfold maxLen; omega) hbb10.size ?_
             intro A12 c12 w12 ho12 hb12 hfar
             have hb12' := hbb10.trans hb12
             have hS12 : Has w12 w9.heap.size 29 (vals .u8 tt) := ⟨(hfar _ hs10 (fun g hg => by have := HOG.out g hg; omega)).trans hS10.eq⟩
             clear hb12 hRT hoo hfar))
        refine ⟨⟨j + 1, N, A12, some ⟨w9.heap.size, 0, none⟩, c12, 32, 32, by omega, HN, by go_num, rfl, rfl, ho12, ?_, hb12'⟩, by have := HNB.out; simp [lenOf]; omega⟩
        rw [TT.out]
        exact Rd.of_has hS12 hS12.lt (by rw [List.drop_zero, List.take_of_length_le (by rw [TL.out]; omega)]) (by rw [TL.out]; omega)
    · obtain rfl : L = m := by rw [HL.out]; omega
      have hfin : (rowL key info j).take L = expandL key info L := by rw [expandL, show roundsOf L = j by unfold roundsOf; omega]
      have hcap := ho5.le_cap
      go_wp2
      go_ret2
      exact ⟨Am, cm, rfl, hfin ▸ ho5.rd, hcap, hb2.trans (hb5.mono hb2.size)⟩
end Go.Proofs.Ytkjbfkhiijnemaa.Hk
