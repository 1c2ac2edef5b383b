/-
  Own text. The contract of package sha's schedule.
-/
import Derived.Test.YtkjbfkhiijnemaaShaLeaf
import Derived.Great.BuildSlice
namespace Go.Proofs.Ytkjbfkhiijnemaa.Sha
open Go Go.RowKit Go.Proofs.Ytkjbfkhiijnemaa.Reg

/-- What the loops of schedule keep: the block, the answer's place, the words so far. -/
def SchedInv (w : World) (bs : List Int) (k : Nat) (wr : World) : Prop :=
  Has wr w.heap.size 34 (vals .u8 bs) ∧ Has wr (w.heap.size + 1) 51 (vals .u32 (List.replicate 64 0)) ∧ Has wr (w.heap.size + 2) 51 (vals .u32 (wpad bs k)) ∧ Below w.heap.size w wr

set_option maxRecDepth 100000 in
set_option maxHeartbeats 1000000 in
theorem schedule_c (bs : List Int) (hl : bs.length = 64) (hby : Bytes bs) (w : World) :
    Calls Try.prog 32 #[.agg (vals .u8 bs)] w fun e w' => e = .returned (.agg (vals .u32 (wseq bs 64))) ∧ Below w.heap.size w w' := by
  go_enter Try.func32, Try.ntmps32
  go_wp2
  go_loopw [4, 6] (fun _ i wr => ∃ k : Nat, k ≤ 16 ∧ i = .int .i64 k ∧ SchedInv w bs k wr) (fun _ i _ => 16 - (intOf i).toNat)
  case atStart =>
    refine ⟨0, Nat.zero_le _, rfl, ?_, ?_, ?_, ?_⟩
    · exact ((Has.new w _ _).alloc _).alloc _
    · exact (Has.new' (w.alloc _) (by simp) _ _).alloc _
    · exact Has.new' ((w.alloc _).alloc _) (by simp) _ _
    · exact (((Below.refl _ _).alloc (Nat.le_refl _) _).alloc (by rw [World.size_alloc]; omega) _).alloc (by rw [World.size_alloc, World.size_alloc]; omega) _
  case round =>
    obtain ⟨k, hk, rfl, hI⟩ := hrel
    by_cases hlt : k < 16
    · go_wp2
      obtain ⟨hB, hR, hW, hb⟩ := hI
      have hwl := wpad_len bs k (by omega)
      refine wp_fam 31 (by kernel_rfl) (by kernel_rfl) (fun I hI' f hf hback => ?_)
      have c0 : ∀ i, (f i).cell? ⟨w.heap.size, 4 * k, none⟩ = some (.int .u8 (nth bs (4 * k))) := fun i => (hB.keep (hf i)).val (by omega)
      have c1 : ∀ i, (f i).cell? ⟨w.heap.size, 4 * k + 1, none⟩ = some (.int .u8 (nth bs (4 * k + 1))) := fun i => (hB.keep (hf i)).val (by omega)
      have c2 : ∀ i, (f i).cell? ⟨w.heap.size, 4 * k + 2, none⟩ = some (.int .u8 (nth bs (4 * k + 2))) := fun i => (hB.keep (hf i)).val (by omega)
      have c3 : ∀ i, (f i).cell? ⟨w.heap.size, 4 * k + 3, none⟩ = some (.int .u8 (nth bs (4 * k + 3))) := fun i => (hB.keep (hf i)).val (by omega)
      have y0 := (hby (4 * k)).1
      have z0 := (hby (4 * k)).2
      have y1 := (hby (4 * k + 1)).1
      have z1 := (hby (4 * k + 1)).2
      have y2 := (hby (4 * k + 2)).1
      have z2 := (hby (4 * k + 2)).2
      have y3 := (hby (4 * k + 3)).1
      have z3 := (hby (4 * k + 3)).2
      have L : Keep _ := ⟨hl⟩
      clear hl
      simp only [List.take_succ_cons, List.take_zero, List.drop_succ_cons, List.drop_zero]
      repeat (go_big_quiet_step (fail))
      refine wpQuiet_nil ?_
      intro w6 hb6
      have hc := (hW.keep hb6).val (i := k) (by rw [hwl]; omega)
      have hz := (hW.keep hb6).frozen k
      go_wp2
      go_roundw
      case rel =>
        refine ⟨k + 1, by omega, by go_num, (hB.keep hb6).far (by show w.heap.size ≠ w.heap.size + 1 + 1; omega) _, (hR.keep hb6).far (by show w.heap.size + 1 ≠ w.heap.size + 1 + 1; omega) _, ?_, (hb.trans (hb6.mono hb.size)).setCell (by show w.heap.size ≤ w.heap.size + 1 + 1; omega) _⟩
        rw [← wpad_set bs k (by omega), ← vals_set]
        simp only [nextW, show k < 16 from by omega, if_true]
        exact (hW.keep hb6).set_ k _
      case measure => simp [intOf]; omega
    · have e : k = 16 := by omega
      subst e
      clear hlt hk
      go_wp2
      go_loopw [5] (fun i wr => ∃ k : Nat, 16 ≤ k ∧ k ≤ 64 ∧ i = .int .i64 k ∧ SchedInv w bs k wr) (fun i _ => 64 - (intOf i).toNat)
      case atStart => exact ⟨16, by omega, by omega, rfl, hI⟩
      case round =>
        clear hI
        rename_i wr0 wr
        obtain ⟨k, hk0, hk, rfl, hI⟩ := hrel
        by_cases hlt : k < 64
        · go_wp2
          obtain ⟨hB, hR, hW, hb⟩ := hI
          have hwl := wpad_len bs k (by omega)
          refine wp_fam 23 (by kernel_rfl) (by kernel_rfl) (fun I hI' f hf hback => ?_)
          have c0 : ∀ i, (f i).cell? ⟨w.heap.size + 1 + 1, k - 2, none⟩ = some (.int .u32 (nth (wseq bs k) (k - 2))) := fun i => by rw [← wpad_get bs k _ (by omega)]; exact (hW.keep (hf i)).val (by omega)
          have c1 : ∀ i, (f i).cell? ⟨w.heap.size + 1 + 1, k - 7, none⟩ = some (.int .u32 (nth (wseq bs k) (k - 7))) := fun i => by rw [← wpad_get bs k _ (by omega)]; exact (hW.keep (hf i)).val (by omega)
          have c2 : ∀ i, (f i).cell? ⟨w.heap.size + 1 + 1, k - 15, none⟩ = some (.int .u32 (nth (wseq bs k) (k - 15))) := fun i => by rw [← wpad_get bs k _ (by omega)]; exact (hW.keep (hf i)).val (by omega)
          have c3 : ∀ i, (f i).cell? ⟨w.heap.size + 1 + 1, k - 16, none⟩ = some (.int .u32 (nth (wseq bs k) (k - 16))) := fun i => by rw [← wpad_get bs k _ (by omega)]; exact (hW.keep (hf i)).val (by omega)
          have L : Keep _ := ⟨hl⟩
          have L2 : Keep _ := ⟨hwl⟩
          clear hl hwl
          simp only [List.take_succ_cons, List.take_zero, List.drop_succ_cons, List.drop_zero]
          repeat (go_big_quiet_step (first | (go_at_call 42; exact calls_fam hf hback (scheduleSigma1_c _ _)) | (go_at_call 43; exact calls_fam hf hback (scheduleSigma0_c _ _))))
          refine wpQuiet_nil ?_
          intro w6 hb6
          have hc := (hW.keep hb6).val (i := k) (by rw [L2.out]; omega)
          have hz := (hW.keep hb6).frozen k
          go_wp2
          go_roundw
          case rel =>
            refine ⟨k + 1, by omega, by omega, by go_num, (hB.keep hb6).far (by show w.heap.size ≠ w.heap.size + 1 + 1; omega) _, (hR.keep hb6).far (by show w.heap.size + 1 ≠ w.heap.size + 1 + 1; omega) _, ?_, (hb.trans (hb6.mono hb.size)).setCell (by show w.heap.size ≤ w.heap.size + 1 + 1; omega) _⟩
            rw [← wpad_set bs k (by omega), ← vals_set]
            simp only [nextW, show ¬ k < 16 from by omega, if_false]
            exact (hW.keep hb6).set_ k _
          case measure => simp [intOf]; omega
        · have e : k = 64 := by omega
          subst e
          clear hlt hk hk0
          obtain ⟨hB, hR, hW, hb⟩ := hI
          rw [wpad_full] at hW
          have hw1 := wseq_len bs 64
          have L2 : Keep _ := ⟨hw1⟩
          clear hw1
          go_wp2_with (first
            | (refine wpList_load_row rfl 51 _ rfl (w.heap.size + 1 + 1) rfl _ _ _ _ hW.eq Try.underlying51 rfl (by rw [vals_size, L2.out]; kernel_rfl) ?_)
            | (refine wpList_store_rowTo rfl 51 _ _ rfl rfl (w.heap.size + 1) (vals .u32 (wseq bs 64)) rfl rfl _ _ hR.eq (by rw [vals_size, L2.out]; kernel_rfl) (by rw [vals_size, vals_size, L2.out]; rfl) vals_one ?_))
          refine bodyPost_ret (v := .agg (vals .u32 (wseq bs 64))) (results_cell_row rfl _ _ (w.heap.size + 1) _ _ _ _ rfl (hR.row _).eq Try.underlying51 rfl (by rw [vals_size, L2.out]; kernel_rfl)) rfl ⟨rfl, below_row hb (by omega) _⟩
end Go.Proofs.Ytkjbfkhiijnemaa.Sha
