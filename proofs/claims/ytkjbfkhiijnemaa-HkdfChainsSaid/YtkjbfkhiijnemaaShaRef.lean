/-
  Own text. The contracts of the reference's k, Begin, schedule.
-/
import Derived.Test.YtkjbfkhiijnemaaShaStep
namespace Go.Proofs.Ytkjbfkhiijnemaa.Sha
open Go Go.RowKit Go.Proofs.Ytkjbfkhiijnemaa.Reg

set_option maxRecDepth 100000 in
set_option maxHeartbeats 1000000 in
theorem begin_c (w : World) :
    Calls Try.prog 22 #[] w fun e w' => e = .returned (.agg (vals .u32 H0)) ∧ Below w.heap.size w w' := by
  go_enter Try.func22, Try.ntmps22
  go_wp2
  refine bodyPost_ret (v := .agg (vals .u32 H0)) (results_cell_row rfl _ _ w.heap.size _ _ _ _ rfl (Has.new w 40 (vals .u32 H0)).eq Try.underlying40 rfl (by kernel_rfl)) rfl ⟨rfl, (Below.refl _ _).alloc (Nat.le_refl _) _⟩

set_option maxRecDepth 100000 in
set_option maxHeartbeats 1000000 in
theorem refBegin_c (w : World) :
    Calls Try.prog 29 #[] w fun e w' => e = .returned (.agg (vals .u32 H0)) ∧ Below w.heap.size w w' := by
  go_enter Try.func29, Try.ntmps29
  go_wp2
  refine bodyPost_ret (v := .agg (vals .u32 H0)) (results_cell_row rfl _ _ w.heap.size _ _ _ _ rfl (Has.new w 40 (vals .u32 H0)).eq Try.underlying40 rfl (by kernel_rfl)) rfl ⟨rfl, (Below.refl _ _).alloc (Nat.le_refl _) _⟩

set_option maxHeartbeats 400000 in
theorem turn_s (x n : Int) (hn : 0 ≤ n) (hn2 : n ≤ 32) (w : World) :
    Calls Try.prog 40 #[.int .u32 x, .int .u64 n] w fun e w' => e = .returned (.int .u32 (rot x n)) ∧ w = w' := by
  go_enter Try.func40, Try.ntmps40
  go_wp2
  go_ret
  exact ⟨rfl, rfl⟩

set_option maxRecDepth 100000 in
set_option maxHeartbeats 1000000 in
theorem k_c (t : Nat) (ht : t < 64) (w : World) :
    Calls Try.prog 41 #[.int .i64 t] w fun e w' => e = .returned (.int .u32 (nth K t)) ∧ Below w.heap.size w w' := by
  go_enter Try.func41, Try.ntmps41
  go_wp2_with (first
    | (refine wpList_buildFlatArrTo rfl 51 39 64 _ rfl .u32 K (some 4) rfl Try.underlying51 (by kernel_rfl) (by kernel_rfl) rfl ?_)
    | (refine store_abs (by rfl) 51 (.tmp 3) (.tmp 4) (by rfl) (by rfl) w.heap.size (vals .u32 K) (by rfl) (by rfl) 51 (vals .u32 Z64) (Has.new' _ rfl _ _) (by kernel_rfl) (by rfl) vals_one w.heap.size w ((Below.refl _ _).alloc (Nat.le_refl _) _) (Nat.le_refl _) ?_
       intro w2 hK hkeep hb2
       have ck : w2.cell? ⟨w.heap.size, t, none⟩ = some (.int .u32 (nth K t)) := hK.val (by rw [K_len]; exact ht)
       clear hkeep))
  go_ret
  exact ⟨rfl, hb2⟩

/-- What the reference's loop keeps. -/
def RefInv (w : World) (bs : List Int) (k : Nat) (wr : World) : Prop :=
  Has wr w.heap.size 34 (vals .u8 bs) ∧ Has wr (w.heap.size + 1) 51 (vals .u32 Z64) ∧ Has wr (w.heap.size + 1 + 1) 51 (vals .u32 (wpad bs k)) ∧ Below w.heap.size w wr

set_option maxRecDepth 100000 in
set_option maxHeartbeats 2000000 in
theorem refSchedule_c (bs : List Int) (hl : bs.length = 64) (hby : Bytes bs) (w : World) :
    Calls Try.prog 39 #[.agg (vals .u8 bs)] w fun e w' => e = .returned (.agg (vals .u32 (wseq bs 64))) ∧ Below w.heap.size w w' := by
  go_enter Try.func39, Try.ntmps39
  have BE : Keep _ := ⟨fun t => be_sum bs t hby⟩
  have L : Keep _ := ⟨hl⟩
  clear hl
  go_wp2
  go_loopw [4] (fun i wr => ∃ k : Nat, k ≤ 64 ∧ i = .int .i64 k ∧ RefInv w bs k wr) (fun i _ => 64 - (intOf i).toNat)
  case atStart =>
    refine ⟨0, Nat.zero_le _, rfl, ?_, ?_, ?_, ?_⟩
    · exact ((Has.new w _ _).alloc _).alloc _
    · exact (Has.new' (w.alloc _) (by simp) _ _).alloc _
    · exact Has.new' ((w.alloc _).alloc _) (by simp) _ _
    · exact (((Below.refl _ _).alloc (Nat.le_refl _) _).alloc (by rw [World.size_alloc]; omega) _).alloc (by rw [World.size_alloc, World.size_alloc]; omega) _
  case round =>
    obtain ⟨k, hk, rfl, hB, hR, hW, hb⟩ := hrel
    by_cases hlt : k < 64
    · by_cases h16 : k < 16
      · go_wp2
        refine wp_fam 31 (by kernel_rfl) (by kernel_rfl) (fun I hI' f hf hback => ?_)
        have c0 : ∀ i, (f i).cell? ⟨w.heap.size, 4 * k, none⟩ = some (.int .u8 (nth bs (4 * k))) := fun i => (hB.keep (hf i)).val (by rw [L.out]; omega)
        have c1 : ∀ i, (f i).cell? ⟨w.heap.size, 4 * k + 1, none⟩ = some (.int .u8 (nth bs (4 * k + 1))) := fun i => (hB.keep (hf i)).val (by rw [L.out]; omega)
        have c2 : ∀ i, (f i).cell? ⟨w.heap.size, 4 * k + 2, none⟩ = some (.int .u8 (nth bs (4 * k + 2))) := fun i => (hB.keep (hf i)).val (by rw [L.out]; omega)
        have c3 : ∀ i, (f i).cell? ⟨w.heap.size, 4 * k + 3, none⟩ = some (.int .u8 (nth bs (4 * k + 3))) := fun i => (hB.keep (hf i)).val (by rw [L.out]; omega)
        have y0 := (hby (4 * k)).1
        have z0 := (hby (4 * k)).2
        have y1 := (hby (4 * k + 1)).1
        have z1 := (hby (4 * k + 1)).2
        have y2 := (hby (4 * k + 2)).1
        have z2 := (hby (4 * k + 2)).2
        have y3 := (hby (4 * k + 3)).1
        have z3 := (hby (4 * k + 3)).2
        simp only [List.take_succ_cons, List.take_zero, List.drop_succ_cons, List.drop_zero]
        repeat (go_big_quiet_step (fail))
        refine wpQuiet_nil ?_
        intro w6 hb6
        have hc := (hW.keep hb6).val (i := k) (by rw [wpad_len bs k hk]; omega)
        have hz := (hW.keep hb6).frozen k
        clear c0 c1 c2 c3 hf hback
        go_wp2
        go_roundw
        case rel =>
          refine ⟨k + 1, by omega, by go_num, (hB.keep hb6).far (by show w.heap.size ≠ w.heap.size + 1 + 1; omega) _, (hR.keep hb6).far (by show w.heap.size + 1 ≠ w.heap.size + 1 + 1; omega) _, ?_, (hb.trans (hb6.mono hb.size)).setCell (by show w.heap.size ≤ w.heap.size + 1 + 1; omega) _⟩
          rw [← wpad_set bs k hlt, ← vals_set]
          simp only [nextW, h16, if_true, BE.out k]
          exact (hW.keep hb6).set_ k _
        case measure => simp [intOf]; omega
      · have c15 : wr.cell? ⟨w.heap.size + 1 + 1, k - 15, none⟩ = some (.int .u32 (nth (wseq bs k) (k - 15))) := by rw [← wpad_get bs k _ (by omega)]; exact hW.val (by rw [wpad_len bs k hk]; omega)
        have c2 : wr.cell? ⟨w.heap.size + 1 + 1, k - 2, none⟩ = some (.int .u32 (nth (wseq bs k) (k - 2))) := by rw [← wpad_get bs k _ (by omega)]; exact hW.val (by rw [wpad_len bs k hk]; omega)
        go_wp2_with (go_at_call 40; refine (turn_s _ _ (by omega) (by omega) _).mono ?_; rintro e w' ⟨rfl, rfl⟩)
        clear c15 c2
        refine wp_fam 15 (by kernel_rfl) (by kernel_rfl) (fun I hI' f hf hback => ?_)
        have c7 : ∀ i, (f i).cell? ⟨w.heap.size + 1 + 1, k - 7, none⟩ = some (.int .u32 (nth (wseq bs k) (k - 7))) := fun i => by rw [← wpad_get bs k _ (by omega)]; exact (hW.keep (hf i)).val (by rw [wpad_len bs k hk]; omega)
        have c16 : ∀ i, (f i).cell? ⟨w.heap.size + 1 + 1, k - 16, none⟩ = some (.int .u32 (nth (wseq bs k) (k - 16))) := fun i => by rw [← wpad_get bs k _ (by omega)]; exact (hW.keep (hf i)).val (by rw [wpad_len bs k hk]; omega)
        simp only [List.take_succ_cons, List.take_zero, List.drop_succ_cons, List.drop_zero]
        repeat (go_big_quiet_step (fail))
        refine wpQuiet_nil ?_
        intro w6 hb6
        have hc := (hW.keep hb6).val (i := k) (by rw [wpad_len bs k hk]; omega)
        have hz := (hW.keep hb6).frozen k
        clear c7 c16 hf hback
        go_wp2
        go_roundw
        case rel =>
          refine ⟨k + 1, by omega, by go_num, (hB.keep hb6).far (by show w.heap.size ≠ w.heap.size + 1 + 1; omega) _, (hR.keep hb6).far (by show w.heap.size + 1 ≠ w.heap.size + 1 + 1; omega) _, ?_, (hb.trans (hb6.mono hb.size)).setCell (by show w.heap.size ≤ w.heap.size + 1 + 1; omega) _⟩
          rw [← wpad_set bs k hlt, ← vals_set]
          simp only [nextW, h16, if_false]
          exact (hW.keep hb6).set_ k _
        case measure => simp [intOf]; omega
    · have e : k = 64 := by omega
      subst e
      clear hlt hk
      have SZ : Keep ((vals .u32 (wpad bs 64)).size = 64) := ⟨by rw [vals_size, wpad_len bs 64 (by omega)]⟩
      rw [wpad_full] at hW SZ
      obtain ⟨ws, hws⟩ : ∃ ws, wseq bs 64 = ws := ⟨_, rfl⟩
      rw [hws] at hW SZ
      have HW : Keep _ := ⟨hws⟩
      clear hws
      go_wp2_with (first
        | (refine wpList_load_row rfl 51 (.tmp 3) rfl (w.heap.size + 1 + 1) rfl _ _ _ _ hW.eq Try.underlying51 rfl (by rw [SZ.out]; kernel_rfl) ?_)
        | (refine wpList_store_rowTo (by rfl) 51 (.tmp 2) (.tmp 85) (by rfl) (by rfl) (w.heap.size + 1) (vals .u32 ws) (by rfl) (by rfl) _ _ hR.eq (by rw [SZ.out]; kernel_rfl) (by rw [SZ.out]; rfl) vals_one ?_))
      rw [HW.out]
      refine bodyPost_ret (v := .agg (vals .u32 ws)) (results_cell_row rfl _ _ (w.heap.size + 1) _ _ _ _ rfl (hR.row _).eq Try.underlying51 rfl (by rw [SZ.out]; kernel_rfl)) rfl ⟨rfl, below_row hb (by omega) _⟩
end Go.Proofs.Ytkjbfkhiijnemaa.Sha
