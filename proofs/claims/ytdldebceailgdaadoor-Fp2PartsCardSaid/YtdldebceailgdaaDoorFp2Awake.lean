/-
  Own text. The head of layer 7's statements.
-/
import Derived.Test.YtdldebceailgdaaDoorFp2Own
namespace Go.Proofs.YtdldebceailgdaaDoor.Fp2
set_option linter.unusedVariables false
set_option linter.unusedSimpArgs false
open Go Go.RowKit Go.Proofs.YtdldebceailgdaaDoor.Reg Go.Proofs.YtdldebceailgdaaDoor.Base Go.Proofs.YtdldebceailgdaaDoor.Limb Go.Proofs.YtdldebceailgdaaDoor.Fp

set_option maxRecDepth 100000 in
set_option maxHeartbeats 4000000 in
theorem one_c (w : World) : Calls Tryd.prog 32 #[] w fun e w' => e = .returned (.agg (vals .u64 [1, 0, 0, 0, 0, 0, 0, 0, 0, 0, 0, 0])) ∧ Below w.heap.size w w' := by
  have hR : Has (w.alloc (.cells (vals .u64 Z12) 26)) w.heap.size 26 (vals .u64 Z12) := Has.new _ _ _
  have hb : Below w.heap.size w (w.alloc (.cells (vals .u64 Z12) 26)) := (Below.refl _ _).alloc (Nat.le_refl _) _
  go_enter Tryd.func32, Tryd.ntmps32
  go_wp2_with (first
    | (refine wpList_buildTo (by rfl) 24 #[(0, .const (.int .u64 1))] (by rfl) (some 1) (by rfl) (vals .u64 [1, 0, 0, 0, 0, 0]) (by kernel_rfl) ?_)
    | (refine wpList_buildTo (by rfl) 26 #[(0, .tmp 1)] (by rfl) (some 2) (by rfl) (vals .u64 [1, 0, 0, 0, 0, 0, 0, 0, 0, 0, 0, 0]) (by kernel_rfl) ?_)
    | (refine store_abs2 (by rfl) 26 (.tmp 0) (.tmp 2) (by rfl) (by rfl) w.heap.size (vals .u64 [1, 0, 0, 0, 0, 0, 0, 0, 0, 0, 0, 0]) (by rfl) (by rfl) 26 _ hR (by kernel_rfl) (by rfl) vals_one ?_
       intro w1 q1 hkeep hbg
       have hb1 := hb.trans hbg))
  refine bodyPost_ret (v := .agg (vals .u64 [1, 0, 0, 0, 0, 0, 0, 0, 0, 0, 0, 0])) (results_cell_row rfl _ _ w.heap.size _ _ _ _ rfl q1.eq Tryd.underlying26 rfl (by kernel_rfl)) rfl ⟨rfl, hb1⟩

theorem aw_e1 : F2 (gm (v2 [0, 0, 0, 0, 0, 0, 1, 0, 0, 0, 0, 0]) (v2 [0, 0, 0, 0, 0, 0, 1, 0, 0, 0, 0, 0])) = F2 (gn (v2 [1, 0, 0, 0, 0, 0, 0, 0, 0, 0, 0, 0])) := by decide +kernel
theorem aw_e2 : F2 (gm (v2 [1, 0, 0, 0, 0, 0, 0, 0, 0, 0, 0, 0]) (1, 1)) = [1, 0, 0, 0, 0, 0, 1, 0, 0, 0, 0, 0] := by decide +kernel
theorem gi_u : gi (0, 1) = gn (0, 1) := by
  have h : pw (gnorm (0, 1)) (PP - 2) = 1 := by
    have hn : gnorm (0, 1) = 1 := by decide
    rw [hn, pw]
    exact Int.one_pow
  rw [gi, h]
  decide
theorem aw_e3 : F2 (gi (v2 [0, 0, 0, 0, 0, 0, 1, 0, 0, 0, 0, 0])) = F2 (gn (v2 [0, 0, 0, 0, 0, 0, 1, 0, 0, 0, 0, 0])) := by
  rw [show v2 [0, 0, 0, 0, 0, 0, 1, 0, 0, 0, 0, 0] = (0, 1) by decide +kernel, gi_u]
theorem aw_e4 : F2 (gm (v2 (F2 (gm (v2 [1, 0, 0, 0, 0, 0, 0, 0, 0, 0, 0, 0]) (1, 1)))) (v2 (F2 (gc (v2 (F2 (gm (v2 [1, 0, 0, 0, 0, 0, 0, 0, 0, 0, 0, 0]) (1, 1)))))))) = [2, 0, 0, 0, 0, 0, 0, 0, 0, 0, 0, 0] := by decide +kernel
theorem gi_nil : gi (0, 0) = (0, 0) := by
  rw [gi]
  generalize pw (gnorm (0, 0)) (PP - 2) = k
  show ((0 : Int) * k, -(0 : Int) * k) = (0, 0)
  rw [Int.neg_zero, Int.zero_mul]
theorem aw_e5 : F2 (gi (v2 [0, 0, 0, 0, 0, 0, 0, 0, 0, 0, 0, 0])) = [0, 0, 0, 0, 0, 0, 0, 0, 0, 0, 0, 0] := by
  rw [show v2 [0, 0, 0, 0, 0, 0, 0, 0, 0, 0, 0, 0] = (0, 0) by decide +kernel, gi_nil]
  decide +kernel

set_option maxRecDepth 100000 in
set_option maxHeartbeats 1000000 in
theorem awake_c (w : World) (hG : GlobD w) : Calls Tryd.prog 11 #[] w fun e w' => e = .returned (.bool true) ∧ Below w.heap.size w w' := by
  obtain ⟨S, hS⟩ : ∃ S, w.heap.size = S := ⟨_, rfl⟩
  have hb0 : Below S w w := Below.refl _ _
  have HSS : Keep (∀ x : World, Below S w x → S ≤ x.heap.size) := ⟨fun x hb => Nat.le_trans (by omega) hb.size⟩
  have HD : Keep (∀ x : World, Below S w x → GlobD x) := ⟨fun x hb => hG.keep (by rw [hS]; exact hb)⟩
  have HG : Keep (∀ x : World, Below S w x → Glob x) := ⟨fun x hb => (HD.out x hb).toGlob⟩
  clear hG
  rw [hS]
  go_enter Tryd.func11, Tryd.ntmps11
  go_wp2_with (first
    | (refine store_abs2 (by rfl) 26 (.tmp 1) (.tmp 3) (by rfl) (by rfl) S (vals .u64 [0, 0, 0, 0, 0, 0, 1, 0, 0, 0, 0, 0]) (by rfl) (by rfl) 26 (vals .u64 Z12) (Has.new' _ hS.symm _ _) (by kernel_rfl) (by rfl) vals_one ?_
       intro w1 qu1 hkeep hbg
       have hb1 := hb0.trans (((Below.refl S w).alloc (by omega) (.cells (vals .u64 Z12) 26)).trans hbg)
       clear hkeep hbg hb0)
    | (refine wpList_buildTo (by rfl) 26 #[(1, .tmp 2)] (by rfl) (some 3) (by rfl) (vals .u64 [0, 0, 0, 0, 0, 0, 1, 0, 0, 0, 0, 0]) (by kernel_rfl) ?_)
    | (refine wpList_buildTo (by rfl) 24 #[(0, .const (.int .u64 1))] (by rfl) (some 2) (by rfl) (vals .u64 [1, 0, 0, 0, 0, 0]) (by kernel_rfl) ?_))
  refine wp_reads 39 0 w1.heap.size (by kernel_rfl) (by kernel_rfl) (by rfl) (by kernel_rfl) (fun _ _ d _ _ h => by cases d <;> exact h) ?_
  simp only [List.take_succ_cons, List.take_zero]
  repeat ((first
    | refine take_eql_t (by rfl) (by rfl) (by rfl) (by rfl) eqok2 gd2 (Nm.len (n := 12) (by with_reducible first | exact Nm.fe _ | exact Nm.F2 _ | assumption | exact nm_one | exact nm_Z6 | (refine Nm.seg (m := 12) ?_ (by decide); assumption) | exact Nm.seg (m := 12) (Nm.F2 _) (by decide) | exact Nm.app2 (.fe _) (.fe _) | exact nm_two | exact nm_rep | exact nm_Z12 | exact Nm.app2 nm_one nm_one | exact Nm.app2 nm_one nm_rep | exact Nm.app2 nm_rep nm_one | exact Nm.app2 nm_two nm_rep | (refine Nm.app2 ?_ nm_Z6; assumption) | exact Nm.app2 (.fe _) nm_Z6 | exact ⟨rfl, words_of _ (by decide)⟩ | fail)) (Nm.len (n := 12) (by with_reducible first | exact Nm.fe _ | exact Nm.F2 _ | assumption | exact nm_one | exact nm_Z6 | (refine Nm.seg (m := 12) ?_ (by decide); assumption) | exact Nm.seg (m := 12) (Nm.F2 _) (by decide) | exact Nm.app2 (.fe _) (.fe _) | exact nm_two | exact nm_rep | exact nm_Z12 | exact Nm.app2 nm_one nm_one | exact Nm.app2 nm_one nm_rep | exact Nm.app2 nm_rep nm_one | exact Nm.app2 nm_two nm_rep | (refine Nm.app2 ?_ nm_Z6; assumption) | exact Nm.app2 (.fe _) nm_Z6 | exact ⟨rfl, words_of _ (by decide)⟩ | fail)) (by with_reducible first | rfl | exact aw_e1 | exact aw_e2 | exact aw_e3 | exact aw_e4 | exact aw_e5) ?_
    | refine take_build (by rfl) (t := 24) (parts := #[(0, .const (.int .u64 1))]) (by rfl) (cells := vals .u64 [1, 0, 0, 0, 0, 0]) (by kernel_rfl) ?_
    | refine take_build (by rfl) (t := 24) (parts := #[(0, .const (.int .u64 2))]) (by rfl) (cells := vals .u64 [2, 0, 0, 0, 0, 0]) (by kernel_rfl) ?_
    | refine take_build (by rfl) (t := 26) (parts := #[(0, .tmp 13), (1, .tmp 14)]) (by rfl) (cells := vals .u64 [1, 0, 0, 0, 0, 0, 1, 0, 0, 0, 0, 0]) (by kernel_rfl) ?_
    | refine take_build (by rfl) (t := 26) (parts := #[(0, .tmp 32)]) (by rfl) (cells := vals .u64 [2, 0, 0, 0, 0, 0, 0, 0, 0, 0, 0, 0]) (by kernel_rfl) ?_
    | refine take_build (by rfl) (t := 26) (parts := #[]) (by rfl) (cells := vals .u64 [0, 0, 0, 0, 0, 0, 0, 0, 0, 0, 0, 0]) (by kernel_rfl) ?_
    | refine take_load (by rfl) 24 (by rfl) (g := S) (n := 6) (by rfl) (t := 26) (xs := [0, 0, 0, 0, 0, 0, 1, 0, 0, 0, 0, 0]) (fun w hw => hw.has qu1 (Nat.ne_of_lt qu1.lt)) Tryd.underlying24 rfl (by kernel_rfl) (by rw [(show List.length _ = 12 from rfl)]; decide) ?_
    | refine take_loadw (by rfl) 26 (by rfl) (g := S) (n := 12) (by rfl) (t := 26) (xs := [0, 0, 0, 0, 0, 0, 1, 0, 0, 0, 0, 0]) (fun w hw => hw.has qu1 (Nat.ne_of_lt qu1.lt)) Tryd.underlying26 rfl (by kernel_rfl) (show List.length _ = 12 from rfl) ?_
    | refine wpTake_cons (.inl ⟨by rfl, fun w hw => (by unfold Oper.quietAt; go_simp; (first | with_reducible refine lRed2 _ ?_ _ (HG.out _ (hb1.trans (hw.below (HSS.out _ hb1) (HSS.out _ hb1)))) | with_reducible refine lAdd2 _ ?_ _ ?_ _ (HG.out _ (hb1.trans (hw.below (HSS.out _ hb1) (HSS.out _ hb1)))) | with_reducible refine lSub2 _ ?_ _ ?_ _ (HG.out _ (hb1.trans (hw.below (HSS.out _ hb1) (HSS.out _ hb1)))) | with_reducible refine lNeg2 _ ?_ _ (HG.out _ (hb1.trans (hw.below (HSS.out _ hb1) (HSS.out _ hb1)))) | with_reducible refine lMul2 _ ?_ _ ?_ _ (HG.out _ (hb1.trans (hw.below (HSS.out _ hb1) (HSS.out _ hb1)))) | with_reducible refine lInv2 _ ?_ _ (HD.out _ (hb1.trans (hw.below (HSS.out _ hb1) (HSS.out _ hb1)))) | with_reducible refine lConj2 _ ?_ _ (HG.out _ (hb1.trans (hw.below (HSS.out _ hb1) (HSS.out _ hb1)))) | with_reducible refine lXi2 _ ?_ _ (HG.out _ (hb1.trans (hw.below (HSS.out _ hb1) (HSS.out _ hb1)))) | with_reducible refine lScale2 _ ?_ _ ?_ _ (HG.out _ (hb1.trans (hw.below (HSS.out _ hb1) (HSS.out _ hb1)))) | with_reducible refine refRed2 _ ?_ _ | with_reducible refine refAdd2 _ ?_ _ ?_ _ | with_reducible refine refSub2 _ ?_ _ ?_ _ | with_reducible refine refNeg2 _ ?_ _ | with_reducible refine refMul2 _ ?_ _ ?_ _ | with_reducible refine refInv2 _ ?_ _ | with_reducible refine refConj2 _ ?_ _ | with_reducible refine refXi2 _ ?_ _ | with_reducible refine refScale2 _ ?_ _ ?_ _ | with_reducible refine one_c _) <;> (with_reducible first | exact Nm.fe _ | exact Nm.F2 _ | assumption | exact nm_one | exact nm_Z6 | (refine Nm.seg (m := 12) ?_ (by decide); assumption) | exact Nm.seg (m := 12) (Nm.F2 _) (by decide) | exact Nm.app2 (.fe _) (.fe _) | exact nm_two | exact nm_rep | exact nm_Z12 | exact Nm.app2 nm_one nm_one | exact Nm.app2 nm_one nm_rep | exact Nm.app2 nm_rep nm_one | exact Nm.app2 nm_two nm_rep | (refine Nm.app2 ?_ nm_Z6; assumption) | exact Nm.app2 (.fe _) nm_Z6 | exact ⟨rfl, words_of _ (by decide)⟩ | fail))⟩) ?_
    | refine wpTake_cons (Steady.of_yields (Or.inl ⟨by rfl, fun w => (by first | (go_simp; done) | (go_simp; with_reducible rfl))⟩)) ?_); simp only [List.getElem_toArray, List.getElem_cons_zero, List.getElem_cons_succ, Act.put, List.setIfInBounds_toArray, List.set_cons_zero, List.set_cons_succ])
  refine wpTake_nil ?_
  refine wpAnyU_end (by kernel_rfl) (fun w2 hq0 => ?_)
  have hq := (drawn_below w1).trans hq0
  have qu2 := qu1.keep hq
  have hb2 := hb1.trans (hq.mono (HSS.out _ hb1))
  clear hq0 hq hb1 qu1
  go_wp2
  go_ret
  exact ⟨rfl, hb2⟩

end Go.Proofs.YtdldebceailgdaaDoor.Fp2
