/-
  Own text. The contracts of package hkdf's sum of parts keyed by a block, and of a key's block.
-/
import Derived.Test.YtkjbfkhiijnemaaHkBlk
import Derived.Test.YtkjbfkhiijnemaaRegB
namespace Go.Proofs.Ytkjbfkhiijnemaa.Hk
open Go Go.RowKit Go.Proofs.Ytkjbfkhiijnemaa.Reg Go.Proofs.Ytkjbfkhiijnemaa.Sha

/-- The sum of bytes, keyed by a block. -/
def macB (bl b : List Int) : List Int := sumL (lessL 92 bl ++ sumL (lessL 54 bl ++ b))
theorem macB_key (key b : List Int) : macB (blockL key) b = macL key b := rfl
theorem macB_len (bl b : List Int) : (macB bl b).length = 32 := sumL_len _
theorem macB_bytes (bl b : List Int) : Bytes (macB bl b) := sumL_bytes _

theorem slElem : ∃ i, (Try.prog).info? 23 = some i ∧ i.zero = some (.slice none 0 0) ∧ i.size = 1 ∧ i.bytes = 24 := by
  have h1 : ((Try.prog).info? 23).map (fun i => (i.size, i.bytes)) = some (1, 24) := by kernel_rfl
  have h2 : ((Try.prog).info? 23).bind (·.zero) = some (.slice none 0 0) := by kernel_rfl
  cases hi : (Try.prog).info? 23 with
  | none => rw [hi] at h1; cases h1
  | some i =>
    rw [hi] at h1 h2
    simp at h1
    exact ⟨i, rfl, h2, h1.1, h1.2⟩

set_option maxRecDepth 100000 in
set_option maxHeartbeats 1000000 in
theorem blockMac_c (bl : List Int) (hbl : bl.length = 64) (A : Option Addr) (n c : Nat) (ps : List Part) (b : List Int) (B : Nat) (w : World) (hl : Lst w B A n (ps.map Part.val)) (hp : Parts w B ps) (hB : B ≤ w.heap.size) (hn : 0 < n) (hn' : n ≤ 100) (hj : joinL ps = b) (hN' : b.length ≤ 500000) :
    Calls Try.prog 18 #[.agg (vals .u8 bl), .slice A n c] w fun e w' => e = .returned (.agg (vals .u8 (macB bl b))) ∧ Below w.heap.size w w' := by
  obtain ⟨i, hi, hz, hsz, hby⟩ := slElem
  obtain ⟨li, hli⟩ : ∃ li, lessL 54 bl = li := ⟨_, rfl⟩
  obtain ⟨lo, hlo⟩ : ∃ lo, lessL 92 bl = lo := ⟨_, rfl⟩
  obtain ⟨si, hsi⟩ : ∃ si, sumL (li ++ b) = si := ⟨_, rfl⟩
  obtain ⟨so, hso⟩ : ∃ so, sumL (lo ++ si) = so := ⟨_, rfl⟩
  have hmac : macB bl b = so := by rw [macB, hli, hsi, hlo, hso]
  have hbb : Bytes b := hj ▸ hp.join
  have LIL : Keep (li.length = 64) := ⟨by rw [← hli, lessL_len, hbl]⟩
  have LOL : Keep (lo.length = 64) := ⟨by rw [← hlo, lessL_len, hbl]⟩
  have SIL : Keep (si.length = 32) := ⟨hsi ▸ sumL_len _⟩
  have SOL : Keep (so.length = 32) := ⟨hso ▸ sumL_len _⟩
  have LIB : Keep (Bytes li) := ⟨hli ▸ lessL_bytes _ _⟩
  have LOB : Keep (Bytes lo) := ⟨hlo ▸ lessL_bytes _ _⟩
  have SIB : Keep (Bytes si) := ⟨hsi ▸ sumL_bytes _⟩
  have HSI : Keep _ := ⟨hsi⟩
  have HSO : Keep _ := ⟨hso⟩
  have MAC : Keep _ := ⟨hmac⟩
  have HJ : Keep _ := ⟨hj⟩
  have BLL : Keep _ := ⟨hbl⟩
  have BN : Keep _ := ⟨hN'⟩
  have M1 := fun w => mix1_c bl hbl 54 w
  have M2 := fun w => mix1_c bl hbl 92 w
  have MX := mixer_c bl hbl
  rw [hli] at M1
  rw [hlo] at M2
  have M1' : Keep _ := ⟨M1⟩
  have M2' : Keep _ := ⟨M2⟩
  have MX' : Keep _ := ⟨MX⟩
  rw [hmac]
  clear hli hlo hsi hso hmac hbb hj M1 M2 MX hbl hN'
  have hG0 : Has ((w.alloc (.cells (vals .u8 bl) 34)).alloc (.cells (vals .u8 Z32) 29)) w.heap.size 34 (vals .u8 bl) := (Has.new _ _ _).alloc _
  have hR0 : Has ((w.alloc (.cells (vals .u8 bl) 34)).alloc (.cells (vals .u8 Z32) 29)) (w.heap.size + 1) 29 (vals .u8 Z32) := Has.new' _ (by simp) _ _
  have hb0 : Below w.heap.size w ((w.alloc (.cells (vals .u8 bl) 34)).alloc (.cells (vals .u8 Z32) 29)) := ((Below.refl _ _).alloc (Nat.le_refl _) _).alloc (by simp) _
  have hl0 := hl.keep hb0 hB
  have hp0 := hp.keep hb0 hB
  have hB0 := Nat.le_trans hB hb0.size
  clear hl hp
  go_enter Try.func18, Try.ntmps18
  go_wp2_with (first
    | (refine wpList_load_row rfl 34 (.tmp 2) rfl w.heap.size rfl _ _ _ _ hG0.eq Try.underlying34 rfl (by rw [vals_size, BLL.out]; kernel_rfl) ?_)
    | (go_at_call 26
       refine (MX'.out _).mono ?_
       rintro e w1 ⟨rfl, hM1, hb1⟩
       have hR1 := hR0.keep hb1
       have hl1 := hl0.keep hb1 hB0
       have hp1 := hp0.keep hb1 hB0
       have hbb1 := hb0.trans (hb1.mono hb0.size)
       simp only [World.size_alloc] at hM1
       clear hG0 hR0 hl0 hp0 hb0 hb1)
    | (go_at_call 37
       refine (M1'.out _ w1 hM1).mono ?_
       rintro e w2 ⟨rfl, hI2, hb2⟩
       have hM2 := hM1.keep hb2
       have hR2 := hR1.keep hb2
       have hB1 := Nat.le_trans hB hbb1.size
       have hl2 := hl1.keep hb2 hB1
       have hp2 := hp1.keep hb2 hB1
       have hbb2 := hbb1.trans (hb2.mono hbb1.size)
       have hg1 := hM1.lt
       have hg2 := hI2.lt
       clear hM1 hR1 hl1 hp1 hbb1 hb2)
    | (refine append_vs (by rfl) (.tmp 11) (.tmp 12) 44 (by rfl) w2.heap.size 23 i (.slice none 0 0) 24 Try.underlying44 hi hz hsz hby (by rfl) (some ⟨w2.heap.size, 0, none⟩) 1 1 [.slice (some ⟨w1.heap.size, 0, none⟩) 64 64] (by rfl) (OwnV.of_has (vs := [.slice (some ⟨w1.heap.size, 0, none⟩) 64 64]) (Has.new w2 23 #[.slice (some ⟨w1.heap.size, 0, none⟩) 64 64]) (Nat.le_refl _) (by unfold maxLen; simp) rfl) B A n c (ps.map Part.val) (by rfl) (hl2.keep ((Below.refl w2.heap.size w2).alloc (Nat.le_refl _) _) (Nat.le_trans hB hbb2.size)) hn (part_one ps) (n + 1) (Nat.add_comm 1 n) ((Part.mk (some ⟨w1.heap.size, 0, none⟩) 64 64 li :: ps).map Part.val) (by rfl) (by omega) (by unfold maxLen; omega) (by simp) ?_
       intro A3 c3 w3 ho3 hb3
       have hbe := ((Below.refl w2.heap.size w2).alloc (Nat.le_refl _) (.cells #[.slice (some ⟨w1.heap.size, 0, none⟩) 64 64] 23)).trans hb3
       have hRI : Rd w2 w2.heap.size (some ⟨w1.heap.size, 0, none⟩) 64 .u8 li := Rd.of_has hI2 hg2 (by rw [List.drop_zero, List.take_of_length_le (by rw [LIL.out]; omega)]) (by rw [LIL.out]; omega)
       have hP3 : Parts w3 w2.heap.size (Part.mk (some ⟨w1.heap.size, 0, none⟩) 64 64 li :: ps) := Parts.cons (hRI.keep hbe (Nat.le_refl _)) LIB.out ((hp2.keep hbe (Nat.le_trans hB hbb2.size)).more (Nat.le_trans hB hbb2.size))
       have hM3 := hM2.keep hbe
       have hR3 := hR2.keep hbe
       have hbb3 := hbb2.trans (hbe.mono hbb2.size)
       have hl3 := hbe.size
       clear hRI hb3 hbe hM2 hR2 hl2 hp2 hI2 hbb2)
    | (go_at_call 27
       refine (joined_c A3 (n + 1) c3 _ (li ++ b) w3.heap.size w3 ho3.lst (hP3.more hl3) (Nat.le_refl _) (by omega) (by rw [joinL_cons, HJ.out]) (by rw [List.length_append, LIL.out]; have := BN.out; omega)).mono ?_
       rintro e w4 ⟨rfl, hb4⟩
       rw [HSI.out]
       have hM4 := hM3.keep hb4
       have hR4 := hR3.keep hb4
       have hbb4 := hbb3.trans (hb4.mono hbb3.size)
       clear hM3 hR3 hP3 hbb3 hb4 ho3)
    | (refine store_abs2 (by rfl) 29 (.tmp 6) (.tmp 14) (by rfl) (by rfl) w4.heap.size (vals .u8 si) (by rfl) (by rfl) 29 (vals .u8 Z32) (Has.new' _ rfl _ _) (by rw [vals_size, SIL.out]; kernel_rfl) (by rw [vals_size, vals_size, SIL.out]; rfl) vals_one ?_
       intro w5 hS5 hkeep hbg
       have hbe := ((Below.refl w4.heap.size w4).alloc (Nat.le_refl _) (.cells (vals .u8 Z32) 29)).trans hbg
       have hM5 := hM4.keep hbe
       have hR5 := hR4.keep hbe
       have hbb5 := hbb4.trans (hbe.mono hbb4.size)
       have hs5 := hS5.lt
       clear hkeep hbg hbe hM4 hR4 hbb4))
  refine wp_front [0, 2] [1, 3, 4, 5] (by kernel_rfl) (by rfl) (by kernel_rfl) (by kernel_rfl) (fun _ _ d _ _ h => by cases d <;> exact h) ?_
  simp only [List.filterMap_cons, List.filterMap_nil, List.getElem?_cons_zero, List.getElem?_cons_succ]
  refine ⟨_, Or.inl ⟨by rfl, fun w => (by go_simp; with_reducible rfl)⟩, ?_⟩
  simp only [Act.put, List.setIfInBounds_toArray, List.set_cons_zero, List.set_cons_succ]
  refine ⟨_, Or.inl ⟨by rfl, fun w => (by go_simp; with_reducible rfl)⟩, ?_⟩
  simp only [Act.put, List.setIfInBounds_toArray, List.set_cons_zero, List.set_cons_succ]
  change wpList _ _ _ _ _ _
  refine wpList_own (by rfl) ?_
  have hS6 := hS5.drew
  have hR6 := hR5.drew
  have hM6 := hM5.drew
  have hbd : Below w5.heap.size w5 w5.drew := ⟨rfl, rfl, rfl, Nat.le_refl _, fun _ _ => rfl⟩
  have hbb6 := hbb5.trans (hbd.mono hbb5.size)
  clear hS5 hR5 hM5 hbb5 hs5 hbd
  generalize w5.drew = w6 at *
  go_wp2_with (first
    | (go_at_call 37
       refine (M2'.out _ w6 hM6).mono ?_
       rintro e w7 ⟨rfl, hO7, hb7⟩
       have hR7 := hR6.keep hb7
       have hS7 := hS6.keep hb7
       have hbb7 := hbb6.trans (hb7.mono hbb6.size)
       have hg7 := hO7.lt
       have hg6 := Nat.lt_of_lt_of_le hS6.lt hb7.size
       have hRO : Rd w7 w7.heap.size (some ⟨w6.heap.size, 0, none⟩) 64 .u8 lo := Rd.of_has hO7 hg7 (by rw [List.drop_zero, List.take_of_length_le (by rw [LOL.out]; omega)]) (by rw [LOL.out]; omega)
       have hRS : Rd w7 w7.heap.size (some ⟨w4.heap.size, 0, none⟩) 32 .u8 si := Rd.of_has hS7 hg6 (by rw [List.drop_zero, List.take_of_length_le (by rw [SIL.out]; omega)]) (by rw [SIL.out]; omega)
       clear hM6 hR6 hS6 hbb6 hb7 hO7 hS7)
    | (go_at_call 27
       refine (joined_c (some ⟨w7.heap.size, 0, none⟩) 2 2 [⟨some ⟨w6.heap.size, 0, none⟩, 64, 64, lo⟩, ⟨some ⟨w4.heap.size, 0, none⟩, 32, 32, si⟩] (lo ++ si) (w7.heap.size + 1) _ (Lst.of_has (Has.new w7 23 _) (Nat.lt_succ_self _) rfl)
         (Parts.cons (hRO.keep ((Below.refl w7.heap.size w7).alloc (Nat.le_refl _) _) (Nat.le_refl _) |>.more (Nat.le_succ _)) LOB.out
           (Parts.cons (hRS.keep ((Below.refl w7.heap.size w7).alloc (Nat.le_refl _) _) (Nat.le_refl _) |>.more (Nat.le_succ _)) SIB.out Parts.nil)) (by simp) (by omega) (by simp [joinL]) (by rw [List.length_append, LOL.out, SIL.out]; omega)).mono ?_
       rintro e w8 ⟨rfl, hb8⟩
       rw [HSO.out]
       have hb8' := ((Below.refl w7.heap.size w7).alloc (Nat.le_refl _) (.cells #[.slice (some ⟨w6.heap.size, 0, none⟩) 64 64, .slice (some ⟨w4.heap.size, 0, none⟩) 32 32] 23)).trans (hb8.mono (by simp))
       have hR8 := hR7.keep hb8'
       have hbb8 := hbb7.trans (hb8'.mono hbb7.size)
       clear hb8 hb8' hR7 hRO hRS hbb7
       dsimp only
       refine ‹∀ (a : Act) (w : World), wpList _ _ _ _ a w → _› _ _ ?_
       refine wpList_store_rowTo (by rfl) 29 (.tmp 4) (.tmp 19) (by rfl) (by rfl) (w.heap.size + 1) (vals .u8 so) (by rfl) (by rfl) _ _ hR8.eq (by rw [vals_size, SOL.out]; kernel_rfl) (by rw [vals_size, vals_size, SOL.out]; rfl) vals_one ?_))
  refine bodyPost_ret (v := .agg (vals .u8 so)) (results_cell_row rfl _ _ (w.heap.size + 1) _ _ _ _ rfl (hR8.row _).eq Try.underlying29 rfl (by rw [vals_size, SOL.out]; kernel_rfl)) rfl ⟨rfl, below_row hbb8 (by omega) _⟩

theorem block_copy (l : List Int) (_ : l.length ≤ 64) : (List.replicate 64 (0 : Int)).take 0 ++ (l ++ (List.replicate 64 (0 : Int)).drop (0 + l.length)) = l ++ List.replicate (64 - l.length) 0 := by rw [List.take_zero, List.nil_append, List.drop_replicate, Nat.zero_add]

set_option maxRecDepth 100000 in
set_option maxHeartbeats 1000000 in
theorem keyBlock_c (A : Option Addr) (n c : Nat) (key : List Int) (B : Nat) (w : World) (hr : Rd w B A n .u8 key) (hby : Bytes key) (hB : B ≤ w.heap.size) (hn : n ≤ 100000) :
    Calls Try.prog 17 #[.slice A n c] w fun e w' => e = .returned (.agg (vals .u8 (blockL key))) ∧ Below w.heap.size w w' := by
  have LN : Keep _ := ⟨hr.len⟩
  have BY : Keep _ := ⟨hby⟩
  obtain ⟨bl, hbl⟩ : ∃ bl, blockL key = bl := ⟨_, rfl⟩
  have HBL : Keep _ := ⟨hbl⟩
  have BLL : Keep (bl.length = 64) := ⟨hbl ▸ blockL_len key⟩
  rw [hbl]
  clear hby hbl
  have hR0 : Has ((w.alloc (.cells (vals .u8 (List.replicate 64 0)) 34)).alloc (.cells (vals .u8 (List.replicate 64 0)) 34)) w.heap.size 34 (vals .u8 (List.replicate 64 0)) := (Has.new _ _ _).alloc _
  have hK0 : Has ((w.alloc (.cells (vals .u8 (List.replicate 64 0)) 34)).alloc (.cells (vals .u8 (List.replicate 64 0)) 34)) (w.heap.size + 1) 34 (vals .u8 (List.replicate 64 0)) := Has.new' _ (by simp) _ _
  have hb0 : Below w.heap.size w ((w.alloc (.cells (vals .u8 (List.replicate 64 0)) 34)).alloc (.cells (vals .u8 (List.replicate 64 0)) 34)) := ((Below.refl _ _).alloc (Nat.le_refl _) _).alloc (by simp) _
  have hr0 := hr.keep hb0 hB
  have hB0 := Nat.le_trans hB hb0.size
  rcases Nat.lt_or_ge 64 n with hlong | hlong
  · obtain ⟨s, hs⟩ : ∃ s, sumL key = s := ⟨_, rfl⟩
    have HS : Keep _ := ⟨hs⟩
    have SL : Keep (s.length = 32) := ⟨hs ▸ sumL_len key⟩
    have FIN : Keep (s ++ List.replicate (64 - s.length) 0 = bl) := ⟨by rw [← HBL.out, blockL, keyL, if_pos (by rw [LN.out]; exact hlong), hs]⟩
    clear hs hr
    go_enter Try.func17, Try.ntmps17
    go_wp2_with (first
      | (go_at_call 16
         refine (sum_c A n c key B _ hr0 BY.out hB0 (by omega)).mono ?_
         rintro e w1 ⟨rfl, hb1⟩
         rw [HS.out]
         have hR1 := hR0.keep hb1
         have hK1 := hK0.keep hb1
         have hbb1 := hb0.trans (hb1.mono hb0.size)
         clear hr0 hR0 hK0 hb0 hb1)
      | (refine store_abs2 (by rfl) 29 (.tmp 4) (.tmp 9) (by rfl) (by rfl) w1.heap.size (vals .u8 s) (by rfl) (by rfl) 29 (vals .u8 Z32) (Has.new' _ rfl _ _) (by rw [vals_size, SL.out]; kernel_rfl) (by rw [vals_size, vals_size, SL.out]; rfl) vals_one ?_
         intro w2 hS2 hkeep hbg
         have hbe := ((Below.refl w1.heap.size w1).alloc (Nat.le_refl _) (.cells (vals .u8 Z32) 29)).trans hbg
         have hR2 := hR1.keep hbe
         have hK2 := hK1.keep hbe
         have hbb2 := hbb1.trans (hbe.mono hbb1.size)
         have hs2 := hS2.lt
         have hRS : Rd w2 w2.heap.size (some ⟨w1.heap.size, 0, none⟩) 32 .u8 s := Rd.of_has hS2 hs2 (by rw [List.drop_zero, List.take_of_length_le (by rw [SL.out]; omega)]) (by rw [SL.out]; omega)
         clear hkeep hbg hbe hR1 hK1 hbb1 hS2)
      | (refine copy_rd (by rfl) (.tmp 11) (.tmp 12) 23 23 (by rfl) 5 Try.underlying23 (by kernel_rfl) (w.heap.size + 1) 0 64 64 (some ⟨w1.heap.size, 0, none⟩) 32 32 (by rfl) (by rfl) .u8 34 (List.replicate 64 0) s w2.heap.size hK2 hRS (by omega) (by simp) w.heap.size w hbb2 (by omega) ?_
         intro w3 hP hkeep hb3
         rw [block_copy s (by rw [SL.out]; omega), FIN.out] at hP
         have hR3 := hkeep _ _ _ hR2 (by omega)
         clear hkeep hRS hR2 hK2 hbb2)
      | (refine wpList_load_row rfl 34 (.tmp 3) rfl (w.heap.size + 1) rfl _ _ _ _ hP.eq Try.underlying34 rfl (by rw [vals_size, BLL.out]; kernel_rfl) ?_)
      | (refine wpList_store_rowTo rfl 34 (.tmp 2) (.tmp 14) rfl rfl w.heap.size (vals .u8 bl) rfl rfl _ _ hR3.eq (by rw [vals_size, BLL.out]; kernel_rfl) (by rw [vals_size, vals_size, BLL.out]; rfl) vals_one ?_))
    refine bodyPost_ret (v := .agg (vals .u8 bl)) (results_cell_row rfl _ _ w.heap.size _ _ _ _ rfl (hR3.row _).eq Try.underlying34 rfl (by rw [vals_size, BLL.out]; kernel_rfl)) rfl ⟨rfl, below_row hb3 (Nat.le_refl _) _⟩
  · have FIN : Keep (key ++ List.replicate (64 - key.length) 0 = bl) := ⟨by rw [← HBL.out, blockL, keyL, if_neg (by rw [LN.out]; omega)]⟩
    clear hr
    go_enter Try.func17, Try.ntmps17
    go_wp2_with (first
      | (refine copy_rd (by rfl) (.tmp 11) (.tmp 12) 23 23 (by rfl) 5 Try.underlying23 (by kernel_rfl) (w.heap.size + 1) 0 64 64 A n c (by rfl) (by rfl) .u8 34 (List.replicate 64 0) key B hK0 hr0 (by omega) (by simp; omega) w.heap.size w hb0 (by omega) ?_
         intro w3 hP hkeep hb3
         rw [block_copy key (by rw [LN.out]; omega), FIN.out] at hP
         have hR3 := hkeep _ _ _ hR0 (by omega)
         clear hkeep hr0 hR0 hK0 hb0)
      | (refine wpList_load_row rfl 34 (.tmp 3) rfl (w.heap.size + 1) rfl _ _ _ _ hP.eq Try.underlying34 rfl (by rw [vals_size, BLL.out]; kernel_rfl) ?_)
      | (refine wpList_store_rowTo rfl 34 (.tmp 2) (.tmp 14) rfl rfl w.heap.size (vals .u8 bl) rfl rfl _ _ hR3.eq (by rw [vals_size, BLL.out]; kernel_rfl) (by rw [vals_size, vals_size, BLL.out]; rfl) vals_one ?_))
    refine bodyPost_ret (v := .agg (vals .u8 bl)) (results_cell_row rfl _ _ w.heap.size _ _ _ _ rfl (hR3.row _).eq Try.underlying34 rfl (by rw [vals_size, BLL.out]; kernel_rfl)) rfl ⟨rfl, below_row hb3 (Nat.le_refl _) _⟩
end Go.Proofs.Ytkjbfkhiijnemaa.Hk
