/-
  Own text. The contracts of package hkdf's inner functions: the join's sum, the closure that mixes, a key's block, the sum of parts keyed by a block.
-/
import Derived.Test.YtkjbfkhiijnemaaHkCat
import Derived.Test.YtkjbfkhiijnemaaShaSum
namespace Go.Proofs.Ytkjbfkhiijnemaa.Hk
open Go Go.RowKit Go.Proofs.Ytkjbfkhiijnemaa.Reg Go.Proofs.Ytkjbfkhiijnemaa.Sha

set_option maxRecDepth 100000 in
set_option maxHeartbeats 1000000 in
theorem joined_c (A : Option Addr) (n c : Nat) (ps : List Part) (bs : List Int) (B : Nat) (w : World) (hl : Lst w B A n (ps.map Part.val)) (hp : Parts w B ps) (hB : B ≤ w.heap.size) (hn : n ≤ 1000) (hj : joinL ps = bs) (hN' : bs.length ≤ 1000000) :
    Calls Try.prog 27 #[.slice A n c] w fun e w' => e = .returned (.agg (vals .u8 (sumL bs))) ∧ Below w.heap.size w w' := by
  obtain ⟨s, hs⟩ : ∃ s, sumL bs = s := ⟨_, rfl⟩
  obtain ⟨N, hN⟩ : ∃ N, bs.length = N := ⟨_, rfl⟩
  rw [hN] at hN'
  have HS : Keep _ := ⟨hs⟩
  have HJ : Keep _ := ⟨hj⟩
  have HN : Keep _ := ⟨hN⟩
  have SL : Keep (s.length = 32) := ⟨by rw [← hs]; exact sumL_len _⟩
  have PB : Keep (Bytes bs) := ⟨hj ▸ hp.join⟩
  rw [hs]
  clear hs hj hN
  have hR0 : Has (w.alloc (.cells (vals .u8 Z32) 29)) w.heap.size 29 (vals .u8 Z32) := Has.new _ _ _
  have hb0 : Below w.heap.size w (w.alloc (.cells (vals .u8 Z32) 29)) := (Below.refl _ _).alloc (Nat.le_refl _) _
  have hl0 := hl.keep hb0 hB
  have hp0 := hp.keep hb0 hB
  have hB0 := Nat.le_trans hB hb0.size
  clear hl hp
  go_enter Try.func27, Try.ntmps27
  go_wp2_with (first
    | (go_at_call 38
       refine (concat_c A n c ps N B _ hl0 hp0 hB0 hn (by rw [HJ.out]; exact HN.out) hN').mono ?_
       rintro e w1 ⟨A1, c1, rfl, ho1, hb1⟩
       rw [HJ.out] at ho1
       have hR1 := hR0.keep hb1
       have hbb1 := hb0.trans (hb1.mono hb0.size)
       clear hR0 hb0 hl0 hp0 hb1)
    | (go_at_call 16
       refine (sum_c A1 N c1 bs w1.heap.size w1 ho1.rd PB.out (Nat.le_refl _) hN').mono ?_
       rintro e w2 ⟨rfl, hb2⟩
       rw [HS.out]
       have hR2 := hR1.keep hb2
       have hbb2 := hbb1.trans (hb2.mono hbb1.size)
       dsimp only
       refine ‹∀ (a : Act) (w : World), wpList _ _ _ _ a w → _› _ _ ?_
       refine wpList_store_rowTo (by rfl) 29 (.tmp 2) (.tmp 5) (by rfl) (by rfl) w.heap.size (vals .u8 s) (by rfl) (by rfl) _ _ hR2.eq (by rw [vals_size, SL.out]; kernel_rfl) (by rw [vals_size, vals_size, SL.out]; rfl) vals_one ?_))
  refine bodyPost_ret (v := .agg (vals .u8 s)) (results_cell_row rfl _ _ w.heap.size _ _ _ _ rfl (hR2.row _).eq Try.underlying29 rfl (by rw [vals_size, SL.out]; kernel_rfl)) rfl ⟨rfl, below_row hbb2 (Nat.le_refl _) _⟩

theorem less_tab (x : Int) (bl : List Int) (hl : bl.length = 64) : fill 64 (fun j => bits .xor .u8 (nth bl j) x) (nth (List.replicate 64 0)) 64 = lessL x bl := by
  refine ext_nth (by rw [fill_len, lessL_len, hl]) fun i hi => ?_
  rw [fill_len] at hi
  rw [fill_nth _ _ _ hi, if_pos hi, lessL_nth x bl (by omega)]

set_option maxRecDepth 100000 in
set_option maxHeartbeats 1000000 in
theorem mix1_c (bl : List Int) (hl : bl.length = 64) (x : Int) (g : Nat) (w : World) (hg : Has w g 34 (vals .u8 bl)) :
    Calls Try.prog 37 #[.int .u8 x, .pointer (some ⟨g, 0, none⟩)] w fun e w' => e = .returned (.slice (some ⟨w.heap.size, 0, none⟩) 64 64) ∧ Has w' w.heap.size 5 (vals .u8 (lessL x bl)) ∧ Below w.heap.size w w' := by
  have hmk : ∀ w, (Instr.makeSlice 23 (.int .i64 64) (.int .i64 64)).run Try.prog w = .ok (.slice (some ⟨w.heap.size, 0, none⟩) 64 64) (w.alloc (.cells (vals .u8 (List.replicate 64 0)) 5)) := fun w => run_make_vals (P := Try.prog) w 23 5 .u8 Try.underlying23 u8Elem .i64 .i64 64 (by omega) (by omega)
  have ix : ∀ (k : Nat), k < 64 → ∀ w : World, (Instr.index 34 (.agg (vals .u8 bl)) (.int .i64 (k : Int))).run Try.prog w = .ok (.int .u8 (nth bl k)) w :=
    fun k hk w => run_index_vals Try.underlying34 Try.underlying5 rfl (by kernel_rfl) hl hk w
  have IX : Keep _ := ⟨ix⟩
  have LH : Keep _ := ⟨hl⟩
  clear ix hl
  have hG := hg.alloc (.cells (vals .u8 (List.replicate 64 0)) 5)
  have hD : Has (w.alloc (.cells (vals .u8 (List.replicate 64 0)) 5)) w.heap.size 5 (vals .u8 (fill 64 (fun j => bits .xor .u8 (nth bl j) x) (nth (List.replicate 64 0)) 0)) := by
    rw [fill_zero 64 _ (List.replicate 64 0) rfl]
    exact Has.new _ _ _
  have hb : Below w.heap.size w (w.alloc (.cells (vals .u8 (List.replicate 64 0)) 5)) := (Below.refl _ _).alloc (Nat.le_refl _) _
  clear hg
  go_enter Try.func37, Try.ntmps37
  go_wp2_with (refine wpList_load_row rfl 34 (.tmp 1) rfl g rfl _ _ _ _ hG.eq Try.underlying34 rfl (by rw [vals_size, LH.out]; kernel_rfl) ?_)
  go_loopw [9] (fun i wr => ∃ k : Nat, k ≤ 64 ∧ i = .int .i64 k ∧ Has wr w.heap.size 5 (vals .u8 (fill 64 (fun j => bits .xor .u8 (nth bl j) x) (nth (List.replicate 64 0)) k)) ∧ Below w.heap.size w wr) (fun i _ => 64 - (intOf i).toNat)
  case atStart => exact ⟨0, Nat.zero_le _, rfl, hD, hb⟩
  case round =>
    clear hG hD hb hmk
    obtain ⟨k, hk, rfl, hD, hb⟩ := hrel
    by_cases hlt : k < 64
    · have i0 := IX.out k hlt
      have c0 := hD.val (i := k) (by rw [fill_len]; omega)
      have z0 := hD.frozen k
      go_wp2
      go_roundw
      case rel =>
        have h4 := hD.set_ k (.int .u8 (bits .xor .u8 (nth bl k) x))
        rw [vals_set, fill_set _ _ hlt rfl] at h4
        exact ⟨k + 1, by omega, by go_num, h4, hb.setCell (Nat.le_refl _) _⟩
      case measure => simp [intOf]; omega
    · have ek : k = 64 := by omega
      subst ek
      rw [less_tab x bl LH.out] at hD
      go_wp2
      go_ret
      exact ⟨rfl, hD, hb⟩

set_option maxRecDepth 100000 in
set_option maxHeartbeats 1000000 in
theorem mixer_c (bl : List Int) (hl : bl.length = 64) (w : World) :
    Calls Try.prog 26 #[.agg (vals .u8 bl)] w fun e w' => e = .returned (.func (.func 37) #[] #[.pointer (some ⟨w.heap.size, 0, none⟩)]) ∧ Has w' w.heap.size 34 (vals .u8 bl) ∧ Below w.heap.size w w' := by
  have LH : Keep _ := ⟨hl⟩
  clear hl
  have hb : Below w.heap.size w (w.alloc (.cells (vals .u8 bl) 34)) := (Below.refl _ _).alloc (Nat.le_refl _) _
  have hc : Has (w.alloc (.cells (vals .u8 bl) 34)) w.heap.size 34 (vals .u8 bl) := Has.new w _ _
  go_enter Try.func26, Try.ntmps26
  go_wp2
  go_ret
  exact ⟨rfl, hc, hb⟩
end Go.Proofs.Ytkjbfkhiijnemaa.Hk
