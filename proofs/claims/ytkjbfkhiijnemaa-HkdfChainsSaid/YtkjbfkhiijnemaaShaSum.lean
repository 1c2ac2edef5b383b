/-
  Own text. The contract of package sha's Sum.
-/
import Derived.Test.YtkjbfkhiijnemaaShaPad
namespace Go.Proofs.Ytkjbfkhiijnemaa.Sha
open Go Go.RowKit Go.Proofs.Ytkjbfkhiijnemaa.Reg

def block (p : List Int) (j : Nat) : List Int := (p.drop (64 * j)).take 64
def foldS (p : List Int) : Nat → List Int
  | 0 => H0
  | j + 1 => stepL (foldS p j) (block p j)
theorem foldS_len (p : List Int) (j : Nat) : (foldS p j).length = 8 := by
  cases j with
  | zero => rfl
  | succ j => exact stepL_len _ _
def sumL (bs : List Int) : List Int := digL (foldS (padL bs) (padLen bs.length / 64))
theorem block_len (p : List Int) (j : Nat) (h : 64 * j + 64 ≤ p.length) : (block p j).length = 64 := by simp [block]; omega
theorem block_nth (p : List Int) (j i : Nat) (hi : i < 64) : nth (block p j) i = nth p (64 * j + i) := by
  simp [block, nth, List.getElem?_take_of_lt hi]
theorem bytes_of (l : List Int) (h : ∀ i, i < l.length → 0 ≤ nth l i ∧ nth l i ≤ 255) : Bytes l := by
  intro i
  rcases Nat.lt_or_ge i l.length with hl | hl
  · exact h i hl
  · simp [nth, List.getElem?_eq_none hl]
theorem padL_bytes (bs : List Int) (hb : Bytes bs) : Bytes (padL bs) := bytes_of _ fun i hi => by
  rw [padL_len] at hi
  rw [padL, tab_nth _ hi, padF]
  split
  · exact hb i
  · split
    · omega
    · split
      · have := Int.emod_nonneg (8 * (bs.length : Int) / 2 ^ (8 * (padLen bs.length - 1 - i))) (b := 256) (by omega)
        have := Int.emod_lt_of_pos (8 * (bs.length : Int) / 2 ^ (8 * (padLen bs.length - 1 - i))) (b := 256) (by omega)
        omega
      · omega
theorem block_bytes (p : List Int) (hb : Bytes p) (j : Nat) (h : 64 * j + 64 ≤ p.length) : Bytes (block p j) := bytes_of _ fun i hi => by
  rw [block_len p j h] at hi
  rw [block_nth p j i hi]
  exact hb _

set_option maxRecDepth 100000 in
set_option maxHeartbeats 2000000 in
theorem sum_c (A : Option Addr) (n c : Nat) (bs : List Int) (B : Nat) (w : World) (hr : Rd w B A n .u8 bs) (hby : Bytes bs) (hB : B ≤ w.heap.size) (hn : n ≤ 1000000) :
    Calls Try.prog 16 #[.slice A n c] w fun e w' => e = .returned (.agg (vals .u8 (sumL bs))) ∧ Below w.heap.size w w' := by
  have LN : Keep _ := ⟨hr.len⟩
  obtain ⟨p, hp⟩ : ∃ p, padL bs = p := ⟨_, rfl⟩
  obtain ⟨M, hM⟩ : ∃ M, padLen n = 64 * M := ⟨(n + 72) / 64, by unfold padLen; omega⟩
  have hpl : p.length = 64 * M := by rw [← hp, padL_len, hr.len, hM]
  have hpb : Bytes p := hp ▸ padL_bytes bs hby
  have hMb : M ≤ 20000 := by have := padLen_le n; omega
  have hM1 : 1 ≤ M := by have := padLen_le n; omega
  have HP : Keep _ := ⟨hp⟩
  have HM : Keep _ := ⟨hM⟩
  have PL : Keep _ := ⟨hpl⟩
  have PB : Keep _ := ⟨hpb⟩
  have BY : Keep _ := ⟨hby⟩
  have hR0 : Has (w.alloc (.cells (vals .u8 Z32) 29)) w.heap.size 29 (vals .u8 Z32) := Has.new _ _ _
  have hb0 : Below w.heap.size w (w.alloc (.cells (vals .u8 Z32) 29)) := (Below.refl _ _).alloc (Nat.le_refl _) _
  clear hp hM hpl hpb hby
  go_enter Try.func16, Try.ntmps16
  go_wp2_with (first
    | (go_at_call 22
       refine (begin_c _).mono ?_
       rintro e w1 ⟨rfl, hb1⟩
       have hR1 := hR0.keep hb1
       have hbb1 := hb0.trans (hb1.mono hb0.size)
       clear hR0 hb0 hb1)
    | (refine store_abs (by rfl) 40 (.tmp 3) (.tmp 6) (by rfl) (by rfl) w1.heap.size (vals .u32 H0) (by rfl) (by rfl) 40 (vals .u32 Z8) (Has.new' _ rfl _ _) (by kernel_rfl) (by rfl) vals_one w.heap.size w (hbb1.alloc hbb1.size _) hbb1.size ?_
       intro w2 hS2 hkeep hb2
       have hR2 := hkeep _ _ _ (hR1.alloc _) (by have := hR1.lt; omega)
       have hg3 : w.heap.size < w1.heap.size := hR1.lt
       clear hkeep hR1 hbb1)
    | (go_at_call 23
       refine (pad_c A n c bs B _ (hr.keep hb2 hB) (Nat.le_trans hB hb2.size) hn).mono ?_
       rintro e w3 ⟨rfl, hP3, hb3⟩
       rw [HP.out] at hP3
       rw [HM.out]
       have hS3 := hS2.keep hb3
       have hR3 := hR2.keep hb3
       have hbb3 := hb2.trans (hb3.mono hb2.size)
       have hg4 : w1.heap.size < w2.heap.size := hS2.lt
       clear hS2 hR2 hb2 hb3))
  go_loopw [5] (fun i wr => ∃ j : Nat, j ≤ M ∧ i = .int .i64 ((64 * j : Nat) : Int) ∧ Has wr w.heap.size 29 (vals .u8 Z32) ∧ Has wr w1.heap.size 40 (vals .u32 (foldS p j)) ∧ Has wr w2.heap.size 5 (vals .u8 p) ∧ Below w.heap.size w wr) (fun i _ => 64 * M - (intOf i).toNat)
  case atStart => exact ⟨0, Nat.zero_le _, rfl, hR3, hS3, hP3, hbb3⟩
  case round =>
    clear hR3 hS3 hP3 hbb3
    obtain ⟨j, hj, rfl, hR, hS, hP, hb⟩ := hrel
    by_cases hlt : j < M
    · go_wp2
      have hj1 : 64 * j + 64 ≤ 64 * M := by omega
      have SB : Keep _ := ⟨step_c (foldS p j) (block p j) (foldS_len p j) (block_len p j (by rw [PL.out]; exact hj1)) (block_bytes p PB.out j (by rw [PL.out]; exact hj1))⟩
      obtain ⟨fs, hfs⟩ : ∃ fs, foldS p j = fs := ⟨_, rfl⟩
      obtain ⟨bl, hbl⟩ : ∃ bl, block p j = bl := ⟨_, rfl⟩
      have hfl : fs.length = 8 := by rw [← hfs]; exact foldS_len p j
      have hbe : bl = (p.drop (64 * j)).take 64 := hbl.symm
      have hnx : foldS p (j + 1) = stepL fs bl := by rw [← hfs, ← hbl]; rfl
      rw [hfs] at SB hS
      rw [hbl] at SB
      obtain ⟨ns, hns⟩ : ∃ ns, stepL fs bl = ns := ⟨_, rfl⟩
      have hnl : ns.length = 8 := by rw [← hns]; exact stepL_len _ _
      rw [hns] at SB hnx
      have FL : Keep _ := ⟨hfl⟩
      have BE : Keep _ := ⟨hbe⟩
      have NX : Keep _ := ⟨hnx⟩
      have NL : Keep _ := ⟨hnl⟩
      clear hfs hbl hfl hbe hnx hns hnl
      refine wp_fam 9 (by kernel_rfl) (by kernel_rfl) (fun I hI' fw hf hback => ?_)
      simp only [List.take_succ_cons, List.take_zero, List.drop_succ_cons, List.drop_zero]
      have hsa : ∀ i, (Instr.arrayAt 34 (.slice (some ⟨w2.heap.size, 64 * j, none⟩) 64 (64 * M - 64 * j))).run Try.prog (fw i) = .ok (.pointer (some ⟨w2.heap.size, 64 * j, none⟩)) (fw i) := fun i => arrayAt_run Try.underlying34 (by omega)
      repeat (first
        | (go_big_quiet_want
           refine quiet_load_seg 40 (.tmp 3) (by rfl) w1.heap.size 0 8 (by rfl) 40 .u32 fs fs _ (fun w' ⟨i, hi⟩ => by rw [hi]; exact hS.keep (hf i)) Try.underlying40 rfl (by kernel_rfl) (by rw [List.drop_zero, List.take_of_length_le (by rw [FL.out]; omega)]) (by rw [FL.out]; omega) ?_
           simp only [Act.put, List.setIfInBounds_toArray, List.set_cons_zero, List.set_cons_succ]
           go_big_quiet_on)
        | (go_big_quiet_want
           refine quiet_load_seg 34 (.tmp 21) (by rfl) w2.heap.size (64 * j) 64 (by rfl) 5 .u8 p bl _ (fun w' ⟨i, hi⟩ => by rw [hi]; exact hP.keep (hf i)) Try.underlying34 rfl (by kernel_rfl) BE.out (by rw [PL.out]; exact hj1) ?_
           simp only [Act.put, List.setIfInBounds_toArray, List.set_cons_zero, List.set_cons_succ]
           go_big_quiet_on)
        | go_big_quiet_step ((go_at_call 24; exact calls_fam hf hback (SB.out _))))
      refine wpQuiet_nil ?_
      intro w6 hb6
      clear hsa hf hback
      have hS6 := hS.keep hb6
      have hR6 := hR.keep hb6
      have hP6 := hP.keep hb6
      have hbb6 := hb.trans (hb6.mono hb.size)
      clear hS hR hP hb hb6
      go_wp2_with (refine store_abs (by rfl) 40 (.tmp 3) (.tmp 23) (by rfl) (by rfl) w1.heap.size (vals .u32 ns) (by rfl) (by rfl) 40 _ hS6 (by rw [vals_size, NL.out]; kernel_rfl) (by rw [vals_size, vals_size, NL.out, FL.out]) vals_one w.heap.size w hbb6 (by omega) ?_
                   intro w7 hS7 hkeep hb7
                   have hR7 := hkeep _ _ _ hR6 (by omega)
                   have hP7 := hkeep _ _ _ hP6 (by omega)
                   clear hkeep hR6 hP6 hS6 hbb6)
      go_roundw
      case rel => exact ⟨j + 1, by omega, by go_num, hR7, by rw [NX.out]; exact hS7, hP7, hb7⟩
      case measure => simp [intOf]; omega
    · have ej : j = M := by omega
      subst ej
      have DC : Keep _ := ⟨digest_c (foldS p j) (foldS_len p j)⟩
      have hfl := foldS_len p j
      have fin : sumL bs = digL (foldS p j) := by
        rw [sumL, HP.out, LN.out, HM.out, Nat.mul_div_cancel_left _ (by omega)]
      have hdl : (digL (foldS p j)).length = 32 := fill_len _ _ _ _
      obtain ⟨fs, hfs⟩ : ∃ fs, foldS p j = fs := ⟨_, rfl⟩
      rw [hfs] at DC hS hfl fin hdl
      obtain ⟨ds, hds⟩ : ∃ ds, digL fs = ds := ⟨_, rfl⟩
      rw [hds] at DC fin hdl
      have FL : Keep _ := ⟨hfl⟩
      have FIN : Keep _ := ⟨fin⟩
      have DL : Keep _ := ⟨hdl⟩
      clear hfs hds hfl fin hdl hlt hj hP
      go_wp2_with (first
        | (refine wpList_load_row rfl 40 (.tmp 3) rfl w1.heap.size rfl _ _ _ _ hS.eq Try.underlying40 rfl (by rw [vals_size, FL.out]; kernel_rfl) ?_)
        | (go_at_call 25
           refine (DC.out _).mono ?_
           rintro e w8 ⟨rfl, hb8⟩
           have hR8 := hR.keep hb8
           have hbb8 := hb.trans (hb8.mono hb.size)
           clear hb8 hR hb)
        | (refine wpList_store_rowTo (by rfl) 29 (.tmp 2) (.tmp 25) (by rfl) (by rfl) w.heap.size (vals .u8 ds) (by rfl) (by rfl) _ _ hR8.eq (by rw [vals_size, DL.out]; kernel_rfl) (by rw [vals_size, vals_size, DL.out]; rfl) vals_one ?_))
      rw [FIN.out]
      refine bodyPost_ret (v := .agg (vals .u8 ds)) (results_cell_row rfl _ _ w.heap.size _ _ _ _ rfl (hR8.row _).eq Try.underlying29 rfl (by rw [vals_size, DL.out]; kernel_rfl)) rfl ⟨rfl, below_row hbb8 (Nat.le_refl _) _⟩
end Go.Proofs.Ytkjbfkhiijnemaa.Sha
