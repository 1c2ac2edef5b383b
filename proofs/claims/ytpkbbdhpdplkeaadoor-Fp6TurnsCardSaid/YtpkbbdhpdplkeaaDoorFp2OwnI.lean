/-
  Own text. The contracts of layer 7's landed package: inverses.
-/
import Derived.Test.YtpkbbdhpdplkeaaDoorFp2Own
import Derived.Test.YtpkbbdhpdplkeaaDoorFpW14
namespace Go.Proofs.YtpkbbdhpdplkeaaDoor.Fp2
set_option linter.unusedVariables false
set_option linter.unusedSimpArgs false
open Go Go.RowKit Go.Proofs.YtpkbbdhpdplkeaaDoor.Reg Go.Proofs.YtpkbbdhpdplkeaaDoor.Base Go.Proofs.YtpkbbdhpdplkeaaDoor.Limb Go.Proofs.YtpkbbdhpdplkeaaDoor.Fp

section
variable {x : List Int}
theorem pInv (h : Nm 6 x) (w : World) (hG : GlobD w) : Calls Tryd.prog 54 #[.agg (vals .u64 x)] w fun e w' => e = .returned (.agg (vals .u64 (Fp.fe (pw (num x) (PP - 2))))) ∧ Below w.heap.size w w' := fpInv_c x h.len h.words w hG
end
theorem inv_v (a : List Int) : E2 (gk (v2 (F2 (gc (v2 a)))) (num (Fp.fe (pw (num (Fp.fe (num (Fp.fe (num (seg 0 6 a) * num (seg 0 6 a))) + num (Fp.fe (num (seg 6 6 a) * num (seg 6 6 a)))))) (PP - 2))))) (gi (v2 a)) := by
  refine gk_congr (v2_F2 _) ?_
  rw [nfe]
  refine pw_congr ?_ _
  rw [nfe, Int.add_emod, nfe, nfe, ← Int.add_emod]
  rfl

set_option maxRecDepth 100000 in
set_option maxHeartbeats 4000000 in
theorem lInv2 (a : List Int) (ha : Nm 12 a) (w : World) (hG : GlobD w) : Calls Tryd.prog 31 #[.agg (vals .u64 a)] w fun e w' => e = .returned (.agg (vals .u64 (F2 (gi (v2 a))))) ∧ Below w.heap.size w w' := by
  obtain ⟨S, hS⟩ : ∃ S, w.heap.size = S := ⟨_, rfl⟩
  have Lo : Keep (Z12.length = 12) := ⟨rfl⟩
  have qa0 : Has ((w.alloc (.cells (vals .u64 a) 26)).alloc (.cells (vals .u64 Z12) 26)) (S) 26 (vals .u64 a) := ((Has.new' _ hS.symm _ _).alloc _)
  have qo0 : Has ((w.alloc (.cells (vals .u64 a) 26)).alloc (.cells (vals .u64 Z12) 26)) (S + 1) 26 (vals .u64 Z12) := (Has.new' _ (by simp only [World.size_alloc, hS]) _ _)
  have hb0 : Below S w ((w.alloc (.cells (vals .u64 a) 26)).alloc (.cells (vals .u64 Z12) 26)) := by rw [← hS]; exact (((Below.refl _ _).alloc (Nat.le_refl _) _).alloc (by simp <;> omega) _)
  have hsz0 : ((w.alloc (.cells (vals .u64 a) 26)).alloc (.cells (vals .u64 Z12) 26)).heap.size = S + 2 := by simp only [World.size_alloc, hS]
  have HSS : Keep (∀ x : World, Below S w x → S ≤ x.heap.size) := ⟨fun x hb => Nat.le_trans (by omega) hb.size⟩
  have HD : Keep (∀ x : World, Below S w x → GlobD x) := ⟨fun x hb => hG.keep (by rw [hS]; exact hb)⟩
  have HG : Keep (∀ x : World, Below S w x → Glob x) := ⟨fun x hb => (HD.out x hb).toGlob⟩
  clear hG
  rw [hS]
  go_enter Tryd.func31, Tryd.ntmps31
  go_wp2
  change Code.wp _ _ _ _ (((w.alloc (.cells (vals .u64 a) 26)).alloc (.cells (vals .u64 Z12) 26)))
  obtain ⟨w0, hw0⟩ : ∃ x, ((w.alloc (.cells (vals .u64 a) 26)).alloc (.cells (vals .u64 Z12) 26)) = x := ⟨_, rfl⟩
  rw [hw0] at hb0 hsz0 qa0 qo0 ⊢
  clear hw0
  refine wp_reads 11 2 w0.heap.size (by kernel_rfl) (by kernel_rfl) (by rfl) (by kernel_rfl) (fun _ _ d _ _ h => by cases d <;> exact h) ?_
  simp only [List.take_succ_cons, List.take_zero]
  repeat ((first
    | refine take_load (by rfl) 24 (by rfl) (g := S) (n := 6) (by rfl) (t := 26) (xs := a) (fun w hw => hw.has qa0 (Nat.ne_of_lt qa0.lt)) Tryd.underlying24 rfl (by kernel_rfl) (by rw [ha.len]; decide) ?_
    | refine take_loadw (by rfl) 26 (by rfl) (g := S) (n := 12) (by rfl) (t := 26) (xs := a) (fun w hw => hw.has qa0 (Nat.ne_of_lt qa0.lt)) Tryd.underlying26 rfl (by kernel_rfl) ha.len ?_
    | refine take_load (by rfl) 24 (by rfl) (g := S + 1) (n := 6) (by rfl) (t := 26) (xs := Z12) (fun w hw => hw.has qo0 (Nat.ne_of_lt qo0.lt)) Tryd.underlying24 rfl (by kernel_rfl) (by rw [Lo.out]; decide) ?_
    | refine take_loadw (by rfl) 26 (by rfl) (g := S + 1) (n := 12) (by rfl) (t := 26) (xs := Z12) (fun w hw => hw.has qo0 (Nat.ne_of_lt qo0.lt)) Tryd.underlying26 rfl (by kernel_rfl) Lo.out ?_
    | refine take_build (by rfl) (by rfl) (by refine build2 ?_ ?_ <;> (with_reducible first | exact Nm.fe _ | exact Nm.F2 _ | assumption | exact nm_one | exact nm_Z6 | (refine Nm.seg (m := 12) ?_ (by decide); assumption) | exact Nm.seg (m := 12) (Nm.F2 _) (by decide) | exact Nm.app2 (.fe _) (.fe _) | fail)) ?_
    | refine wpTake_cons (.inl ⟨by rfl, fun w hw => (by unfold Oper.quietAt; go_simp; (first | with_reducible refine pRed ?_ _ (HG.out _ (hb0.trans (hw.below (by first | omega | exact HSS.out _ hb0) (HSS.out _ hb0)))) | with_reducible refine pAdd ?_ ?_ _ (HG.out _ (hb0.trans (hw.below (by first | omega | exact HSS.out _ hb0) (HSS.out _ hb0)))) | with_reducible refine pSub ?_ ?_ _ (HG.out _ (hb0.trans (hw.below (by first | omega | exact HSS.out _ hb0) (HSS.out _ hb0)))) | with_reducible refine pMul ?_ ?_ _ (HG.out _ (hb0.trans (hw.below (by first | omega | exact HSS.out _ hb0) (HSS.out _ hb0)))) | with_reducible refine pNeg ?_ _ (HG.out _ (hb0.trans (hw.below (by first | omega | exact HSS.out _ hb0) (HSS.out _ hb0)))) | with_reducible refine pInv ?_ _ (HD.out _ (hb0.trans (hw.below (by first | omega | exact HSS.out _ hb0) (HSS.out _ hb0)))) | with_reducible refine lConj2 _ ?_ _ (HG.out _ (hb0.trans (hw.below (by first | omega | exact HSS.out _ hb0) (HSS.out _ hb0)))) | with_reducible refine lScale2 _ ?_ _ ?_ _ (HG.out _ (hb0.trans (hw.below (by first | omega | exact HSS.out _ hb0) (HSS.out _ hb0))))) <;> (with_reducible first | exact Nm.fe _ | exact Nm.F2 _ | assumption | exact nm_one | exact nm_Z6 | (refine Nm.seg (m := 12) ?_ (by decide); assumption) | exact Nm.seg (m := 12) (Nm.F2 _) (by decide) | exact Nm.app2 (.fe _) (.fe _) | fail))⟩) ?_
    | refine wpTake_cons (Steady.of_yields (Or.inl ⟨by rfl, fun w => (by first | (go_simp; done) | (go_simp; with_reducible rfl))⟩)) ?_); simp only [List.getElem_toArray, List.getElem_cons_zero, List.getElem_cons_succ, Act.put, List.setIfInBounds_toArray, List.set_cons_zero, List.set_cons_succ])
  refine wpTake_nil ?_
  refine tail_new (i := 11) (j := 12) (by rfl) (by rfl) (by kernel_rfl) (by kernel_rfl) (by kernel_rfl) (by rfl) 24 3 (by rfl) (by rfl) (by rfl) (.tmp 3) (.tmp 14) (by rfl) (by rfl) _ (vals .u64 Z6) (fun _ => by rfl) (fun _ => by rfl) (by exact ⟨_, _, rfl, rfl, by kernel_rfl⟩) (by rw [vals_size, (Nm.fe _).len]; kernel_rfl) (by rw [vals_size, vals_size, (Nm.fe _).len]; rfl) vals_one ?_
  intro w1 gn hgn qn1 hbt
  simp only [List.getElem_toArray, List.getElem_cons_zero, List.getElem_cons_succ, Act.put, List.setIfInBounds_toArray, List.set_cons_zero, List.set_cons_succ]
  have qa1 := qa0.keep hbt
  have Nan := Nat.lt_of_lt_of_le qa0.lt hgn
  have qo1 := qo0.keep hbt
  have Non := Nat.lt_of_lt_of_le qo0.lt hgn
  have hb1 := hb0.trans (hbt.mono (HSS.out _ hb0))
  have Mn : S ≤ gn := Nat.le_trans (HSS.out _ hb0) hgn
  clear hbt hgn hb0 qa0 qo0
  go_wp2
  refine wp_reads 5 1 (S + 1) (by kernel_rfl) (by kernel_rfl) (by rfl) (by kernel_rfl) (fun _ _ d _ _ h => by cases d <;> exact h) ?_
  simp only [List.take_succ_cons, List.take_zero]
  repeat ((first
    | refine take_load (by rfl) 24 (by rfl) (g := S) (n := 6) (by rfl) (t := 26) (xs := a) (fun w hw => hw.has qa1 (by omega)) Tryd.underlying24 rfl (by kernel_rfl) (by rw [ha.len]; decide) ?_
    | refine take_loadw (by rfl) 26 (by rfl) (g := S) (n := 12) (by rfl) (t := 26) (xs := a) (fun w hw => hw.has qa1 (by omega)) Tryd.underlying26 rfl (by kernel_rfl) ha.len ?_
    | refine take_loadw (by rfl) 24 (by rfl) (g := gn) (n := 6) (by rfl) (t := 24) (xs := (Fp.fe (num (Fp.fe (num (seg 0 6 a) * num (seg 0 6 a))) + num (Fp.fe (num (seg 6 6 a) * num (seg 6 6 a)))))) (fun w hw => hw.has qn1 (by omega)) Tryd.underlying24 rfl (by kernel_rfl) (Nm.fe _).len ?_
    | refine take_build (by rfl) (by rfl) (by refine build2 ?_ ?_ <;> (with_reducible first | exact Nm.fe _ | exact Nm.F2 _ | assumption | exact nm_one | exact nm_Z6 | (refine Nm.seg (m := 12) ?_ (by decide); assumption) | exact Nm.seg (m := 12) (Nm.F2 _) (by decide) | exact Nm.app2 (.fe _) (.fe _) | fail)) ?_
    | refine wpTake_cons (.inl ⟨by rfl, fun w hw => (by unfold Oper.quietAt; go_simp; (first | with_reducible refine pRed ?_ _ (HG.out _ (hb1.trans (hw.below (by first | omega | exact HSS.out _ hb1) (HSS.out _ hb1)))) | with_reducible refine pAdd ?_ ?_ _ (HG.out _ (hb1.trans (hw.below (by first | omega | exact HSS.out _ hb1) (HSS.out _ hb1)))) | with_reducible refine pSub ?_ ?_ _ (HG.out _ (hb1.trans (hw.below (by first | omega | exact HSS.out _ hb1) (HSS.out _ hb1)))) | with_reducible refine pMul ?_ ?_ _ (HG.out _ (hb1.trans (hw.below (by first | omega | exact HSS.out _ hb1) (HSS.out _ hb1)))) | with_reducible refine pNeg ?_ _ (HG.out _ (hb1.trans (hw.below (by first | omega | exact HSS.out _ hb1) (HSS.out _ hb1)))) | with_reducible refine pInv ?_ _ (HD.out _ (hb1.trans (hw.below (by first | omega | exact HSS.out _ hb1) (HSS.out _ hb1)))) | with_reducible refine lConj2 _ ?_ _ (HG.out _ (hb1.trans (hw.below (by first | omega | exact HSS.out _ hb1) (HSS.out _ hb1)))) | with_reducible refine lScale2 _ ?_ _ ?_ _ (HG.out _ (hb1.trans (hw.below (by first | omega | exact HSS.out _ hb1) (HSS.out _ hb1))))) <;> (with_reducible first | exact Nm.fe _ | exact Nm.F2 _ | assumption | exact nm_one | exact nm_Z6 | (refine Nm.seg (m := 12) ?_ (by decide); assumption) | exact Nm.seg (m := 12) (Nm.F2 _) (by decide) | exact Nm.app2 (.fe _) (.fe _) | fail))⟩) ?_
    | refine wpTake_cons (Steady.of_yields (Or.inl ⟨by rfl, fun w => (by first | (go_simp; done) | (go_simp; with_reducible rfl))⟩)) ?_); simp only [List.getElem_toArray, List.getElem_cons_zero, List.getElem_cons_succ, Act.put, List.setIfInBounds_toArray, List.set_cons_zero, List.set_cons_succ])
  refine wpTake_nil ?_
  refine tail_store (i := 5) (by rfl) (by kernel_rfl) (by kernel_rfl) (by rfl) 26 (.tmp 2) (.tmp 19) (by rfl) (by rfl) (S + 1) _ (by rfl) (by rfl) 26 _ qo1 (by rw [vals_size, (Nm.F2 _).len]; kernel_rfl) (by rw [vals_size, vals_size, (Nm.F2 _).len]; rfl) vals_one ?_
  intro w2 qo2 hbt
  have qa2 := hbt.has qa1 (by omega)
  have qn2 := hbt.has qn1 (by omega)
  have hb2 := hb1.trans (hbt.below (by omega) (HSS.out _ hb1))
  clear hbt hb1 qa1 qo1 qn1
  go_wp2
  refine bodyPost_ret (v := .agg (vals .u64 _)) (results_cell_row rfl _ _ (S + 1) _ _ _ _ rfl qo2.eq Tryd.underlying26 rfl (by rw [vals_size, (Nm.F2 _).len]; kernel_rfl)) rfl ⟨ret_eq (congrArg (fun z => Value.agg (vals .u64 z)) (F2_eq (inv_v a))), hb2⟩

end Go.Proofs.YtpkbbdhpdplkeaaDoor.Fp2
