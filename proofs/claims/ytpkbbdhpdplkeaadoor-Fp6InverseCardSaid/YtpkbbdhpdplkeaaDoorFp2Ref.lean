/-
  Own text. The contracts of layer 7's reference.
-/
import Derived.Test.YtpkbbdhpdplkeaaDoorFp2Spec
namespace Go.Proofs.YtpkbbdhpdplkeaaDoor.Fp2
set_option linter.unusedVariables false
set_option linter.unusedSimpArgs false
open Go Go.RowKit Go.Proofs.YtpkbbdhpdplkeaaDoor.Reg Go.Proofs.YtpkbbdhpdplkeaaDoor.Base Go.Proofs.YtpkbbdhpdplkeaaDoor.Limb Go.Proofs.YtpkbbdhpdplkeaaDoor.Fp

set_option maxRecDepth 100000 in
set_option maxHeartbeats 4000000 in
theorem refRed2 (a : List Int) (ha : Nm 12 a) (w : World) : Calls Tryd.prog 33 #[.agg (vals .u64 a)] w fun e w' => e = .returned (.agg (vals .u64 (F2 (v2 a)))) ∧ Below w.heap.size w w' := by
  obtain ⟨S, hS⟩ : ∃ S, w.heap.size = S := ⟨_, rfl⟩
  have Lo : Keep (Z12.length = 12) := ⟨rfl⟩
  have qa0 : Has ((w.alloc (.cells (vals .u64 a) 26)).alloc (.cells (vals .u64 Z12) 26)) (S) 26 (vals .u64 a) := ((Has.new' _ hS.symm _ _).alloc _)
  have qo0 : Has ((w.alloc (.cells (vals .u64 a) 26)).alloc (.cells (vals .u64 Z12) 26)) (S + 1) 26 (vals .u64 Z12) := (Has.new' _ (by simp only [World.size_alloc, hS]) _ _)
  have hb0 : Below S w ((w.alloc (.cells (vals .u64 a) 26)).alloc (.cells (vals .u64 Z12) 26)) := by rw [← hS]; exact (((Below.refl _ _).alloc (Nat.le_refl _) _).alloc (by simp <;> omega) _)
  have hsz0 : ((w.alloc (.cells (vals .u64 a) 26)).alloc (.cells (vals .u64 Z12) 26)).heap.size = S + 2 := by simp only [World.size_alloc, hS]
  have HSS : Keep (∀ x : World, Below S w x → S ≤ x.heap.size) := ⟨fun x hb => Nat.le_trans (by omega) hb.size⟩
  rw [hS]
  go_enter Tryd.func33, Tryd.ntmps33
  go_wp2
  change Code.wp _ _ _ _ (((w.alloc (.cells (vals .u64 a) 26)).alloc (.cells (vals .u64 Z12) 26)))
  obtain ⟨w0, hw0⟩ : ∃ x, ((w.alloc (.cells (vals .u64 a) 26)).alloc (.cells (vals .u64 Z12) 26)) = x := ⟨_, rfl⟩
  rw [hw0] at hb0 hsz0 qa0 qo0 ⊢
  clear hw0
  refine wp_reads 7 1 (S + 1) (by kernel_rfl) (by kernel_rfl) (by rfl) (by kernel_rfl) (fun _ _ d _ _ h => by cases d <;> exact h) ?_
  simp only [List.take_succ_cons, List.take_zero]
  repeat ((first
    | refine take_load (by rfl) 24 (by rfl) (g := S) (n := 6) (by rfl) (t := 26) (xs := a) (fun w hw => hw.has qa0 (by omega)) Tryd.underlying24 rfl (by kernel_rfl) (by rw [ha.len]; decide) ?_
    | refine take_loadw (by rfl) 26 (by rfl) (g := S) (n := 12) (by rfl) (t := 26) (xs := a) (fun w hw => hw.has qa0 (by omega)) Tryd.underlying26 rfl (by kernel_rfl) ha.len ?_
    | refine take_build (by rfl) (by rfl) (by refine build2 ?_ ?_ <;> (with_reducible first | exact Nm.fe _ | exact Nm.F2 _ | assumption | exact nm_one | exact nm_Z6 | (refine Nm.seg (m := 12) ?_ (by decide); assumption) | exact Nm.seg (m := 12) (Nm.F2 _) (by decide) | exact Nm.app2 (.fe _) (.fe _) | fail)) ?_
    | refine wpTake_cons (.inl ⟨by rfl, fun w hw => (by unfold Oper.quietAt; go_simp; (first | with_reducible refine rRed ?_ _ | with_reducible refine rAdd ?_ ?_ _ | with_reducible refine rSub ?_ ?_ _ | with_reducible refine rMul ?_ ?_ _ | with_reducible refine rNeg ?_ _) <;> (with_reducible first | exact Nm.fe _ | exact Nm.F2 _ | assumption | exact nm_one | exact nm_Z6 | (refine Nm.seg (m := 12) ?_ (by decide); assumption) | exact Nm.seg (m := 12) (Nm.F2 _) (by decide) | exact Nm.app2 (.fe _) (.fe _) | fail))⟩) ?_
    | refine wpTake_cons (Steady.of_yields (Or.inl ⟨by rfl, fun w => (by first | (go_simp; done) | (go_simp; with_reducible rfl))⟩)) ?_); simp only [List.getElem_toArray, List.getElem_cons_zero, List.getElem_cons_succ, Act.put, List.setIfInBounds_toArray, List.set_cons_zero, List.set_cons_succ])
  refine wpTake_nil ?_
  refine tail_store (i := 7) (by rfl) (by kernel_rfl) (by kernel_rfl) (by rfl) 26 (.tmp 2) (.tmp 9) (by rfl) (by rfl) (S + 1) _ (by rfl) (by rfl) 26 _ qo0 (by rw [vals_size, (Nm.app (.fe _) (.fe _)).len]; kernel_rfl) (by rw [vals_size, vals_size, (Nm.app (.fe _) (.fe _)).len]; rfl) vals_one ?_
  intro w1 qo1 hbt
  have qa1 := hbt.has qa0 (by omega)
  have hb1 := hb0.trans (hbt.below (by omega) (HSS.out _ hb0))
  clear hbt hb0 qa0 qo0
  go_wp2
  refine bodyPost_ret (v := .agg (vals .u64 _)) (results_cell_row rfl _ _ (S + 1) _ _ _ _ rfl qo1.eq Tryd.underlying26 rfl (by rw [vals_size, (Nm.app (.fe _) (.fe _)).len]; kernel_rfl)) rfl ⟨rfl, hb1⟩

set_option maxRecDepth 100000 in
set_option maxHeartbeats 4000000 in
theorem refAdd2 (a : List Int) (ha : Nm 12 a) (b : List Int) (hb : Nm 12 b) (w : World) : Calls Tryd.prog 35 #[.agg (vals .u64 a), .agg (vals .u64 b)] w fun e w' => e = .returned (.agg (vals .u64 (F2 (ga (v2 a) (v2 b))))) ∧ Below w.heap.size w w' := by
  obtain ⟨S, hS⟩ : ∃ S, w.heap.size = S := ⟨_, rfl⟩
  have Lo : Keep (Z12.length = 12) := ⟨rfl⟩
  have qa0 : Has (((w.alloc (.cells (vals .u64 a) 26)).alloc (.cells (vals .u64 b) 26)).alloc (.cells (vals .u64 Z12) 26)) (S) 26 (vals .u64 a) := (((Has.new' _ hS.symm _ _).alloc _).alloc _)
  have qb0 : Has (((w.alloc (.cells (vals .u64 a) 26)).alloc (.cells (vals .u64 b) 26)).alloc (.cells (vals .u64 Z12) 26)) (S + 1) 26 (vals .u64 b) := ((Has.new' _ (by simp only [World.size_alloc, hS]) _ _).alloc _)
  have qo0 : Has (((w.alloc (.cells (vals .u64 a) 26)).alloc (.cells (vals .u64 b) 26)).alloc (.cells (vals .u64 Z12) 26)) (S + 2) 26 (vals .u64 Z12) := (Has.new' _ (by simp only [World.size_alloc, hS]) _ _)
  have hb0 : Below S w (((w.alloc (.cells (vals .u64 a) 26)).alloc (.cells (vals .u64 b) 26)).alloc (.cells (vals .u64 Z12) 26)) := by rw [← hS]; exact ((((Below.refl _ _).alloc (Nat.le_refl _) _).alloc (by simp <;> omega) _).alloc (by simp <;> omega) _)
  have hsz0 : (((w.alloc (.cells (vals .u64 a) 26)).alloc (.cells (vals .u64 b) 26)).alloc (.cells (vals .u64 Z12) 26)).heap.size = S + 3 := by simp only [World.size_alloc, hS]
  have HSS : Keep (∀ x : World, Below S w x → S ≤ x.heap.size) := ⟨fun x hb => Nat.le_trans (by omega) hb.size⟩
  rw [hS]
  go_enter Tryd.func35, Tryd.ntmps35
  go_wp2
  change Code.wp _ _ _ _ ((((w.alloc (.cells (vals .u64 a) 26)).alloc (.cells (vals .u64 b) 26)).alloc (.cells (vals .u64 Z12) 26)))
  obtain ⟨w0, hw0⟩ : ∃ x, (((w.alloc (.cells (vals .u64 a) 26)).alloc (.cells (vals .u64 b) 26)).alloc (.cells (vals .u64 Z12) 26)) = x := ⟨_, rfl⟩
  rw [hw0] at hb0 hsz0 qa0 qb0 qo0 ⊢
  clear hw0
  refine wp_reads 11 1 (S + 2) (by kernel_rfl) (by kernel_rfl) (by rfl) (by kernel_rfl) (fun _ _ d _ _ h => by cases d <;> exact h) ?_
  simp only [List.take_succ_cons, List.take_zero]
  repeat ((first
    | refine take_load (by rfl) 24 (by rfl) (g := S) (n := 6) (by rfl) (t := 26) (xs := a) (fun w hw => hw.has qa0 (by omega)) Tryd.underlying24 rfl (by kernel_rfl) (by rw [ha.len]; decide) ?_
    | refine take_loadw (by rfl) 26 (by rfl) (g := S) (n := 12) (by rfl) (t := 26) (xs := a) (fun w hw => hw.has qa0 (by omega)) Tryd.underlying26 rfl (by kernel_rfl) ha.len ?_
    | refine take_load (by rfl) 24 (by rfl) (g := S + 1) (n := 6) (by rfl) (t := 26) (xs := b) (fun w hw => hw.has qb0 (by omega)) Tryd.underlying24 rfl (by kernel_rfl) (by rw [hb.len]; decide) ?_
    | refine take_loadw (by rfl) 26 (by rfl) (g := S + 1) (n := 12) (by rfl) (t := 26) (xs := b) (fun w hw => hw.has qb0 (by omega)) Tryd.underlying26 rfl (by kernel_rfl) hb.len ?_
    | refine take_build (by rfl) (by rfl) (by refine build2 ?_ ?_ <;> (with_reducible first | exact Nm.fe _ | exact Nm.F2 _ | assumption | exact nm_one | exact nm_Z6 | (refine Nm.seg (m := 12) ?_ (by decide); assumption) | exact Nm.seg (m := 12) (Nm.F2 _) (by decide) | exact Nm.app2 (.fe _) (.fe _) | fail)) ?_
    | refine wpTake_cons (.inl ⟨by rfl, fun w hw => (by unfold Oper.quietAt; go_simp; (first | with_reducible refine rRed ?_ _ | with_reducible refine rAdd ?_ ?_ _ | with_reducible refine rSub ?_ ?_ _ | with_reducible refine rMul ?_ ?_ _ | with_reducible refine rNeg ?_ _) <;> (with_reducible first | exact Nm.fe _ | exact Nm.F2 _ | assumption | exact nm_one | exact nm_Z6 | (refine Nm.seg (m := 12) ?_ (by decide); assumption) | exact Nm.seg (m := 12) (Nm.F2 _) (by decide) | exact Nm.app2 (.fe _) (.fe _) | fail))⟩) ?_
    | refine wpTake_cons (Steady.of_yields (Or.inl ⟨by rfl, fun w => (by first | (go_simp; done) | (go_simp; with_reducible rfl))⟩)) ?_); simp only [List.getElem_toArray, List.getElem_cons_zero, List.getElem_cons_succ, Act.put, List.setIfInBounds_toArray, List.set_cons_zero, List.set_cons_succ])
  refine wpTake_nil ?_
  refine tail_store (i := 11) (by rfl) (by kernel_rfl) (by kernel_rfl) (by rfl) 26 (.tmp 4) (.tmp 15) (by rfl) (by rfl) (S + 2) _ (by rfl) (by rfl) 26 _ qo0 (by rw [vals_size, (Nm.app (.fe _) (.fe _)).len]; kernel_rfl) (by rw [vals_size, vals_size, (Nm.app (.fe _) (.fe _)).len]; rfl) vals_one ?_
  intro w1 qo1 hbt
  have qa1 := hbt.has qa0 (by omega)
  have qb1 := hbt.has qb0 (by omega)
  have hb1 := hb0.trans (hbt.below (by omega) (HSS.out _ hb0))
  clear hbt hb0 qa0 qb0 qo0
  go_wp2
  refine bodyPost_ret (v := .agg (vals .u64 _)) (results_cell_row rfl _ _ (S + 2) _ _ _ _ rfl qo1.eq Tryd.underlying26 rfl (by rw [vals_size, (Nm.app (.fe _) (.fe _)).len]; kernel_rfl)) rfl ⟨rfl, hb1⟩

set_option maxRecDepth 100000 in
set_option maxHeartbeats 4000000 in
theorem refNeg2 (a : List Int) (ha : Nm 12 a) (w : World) : Calls Tryd.prog 37 #[.agg (vals .u64 a)] w fun e w' => e = .returned (.agg (vals .u64 (F2 (gn (v2 a))))) ∧ Below w.heap.size w w' := by
  obtain ⟨S, hS⟩ : ∃ S, w.heap.size = S := ⟨_, rfl⟩
  have Lo : Keep (Z12.length = 12) := ⟨rfl⟩
  have qa0 : Has ((w.alloc (.cells (vals .u64 a) 26)).alloc (.cells (vals .u64 Z12) 26)) (S) 26 (vals .u64 a) := ((Has.new' _ hS.symm _ _).alloc _)
  have qo0 : Has ((w.alloc (.cells (vals .u64 a) 26)).alloc (.cells (vals .u64 Z12) 26)) (S + 1) 26 (vals .u64 Z12) := (Has.new' _ (by simp only [World.size_alloc, hS]) _ _)
  have hb0 : Below S w ((w.alloc (.cells (vals .u64 a) 26)).alloc (.cells (vals .u64 Z12) 26)) := by rw [← hS]; exact (((Below.refl _ _).alloc (Nat.le_refl _) _).alloc (by simp <;> omega) _)
  have hsz0 : ((w.alloc (.cells (vals .u64 a) 26)).alloc (.cells (vals .u64 Z12) 26)).heap.size = S + 2 := by simp only [World.size_alloc, hS]
  have HSS : Keep (∀ x : World, Below S w x → S ≤ x.heap.size) := ⟨fun x hb => Nat.le_trans (by omega) hb.size⟩
  rw [hS]
  go_enter Tryd.func37, Tryd.ntmps37
  go_wp2
  change Code.wp _ _ _ _ (((w.alloc (.cells (vals .u64 a) 26)).alloc (.cells (vals .u64 Z12) 26)))
  obtain ⟨w0, hw0⟩ : ∃ x, ((w.alloc (.cells (vals .u64 a) 26)).alloc (.cells (vals .u64 Z12) 26)) = x := ⟨_, rfl⟩
  rw [hw0] at hb0 hsz0 qa0 qo0 ⊢
  clear hw0
  refine wp_reads 7 1 (S + 1) (by kernel_rfl) (by kernel_rfl) (by rfl) (by kernel_rfl) (fun _ _ d _ _ h => by cases d <;> exact h) ?_
  simp only [List.take_succ_cons, List.take_zero]
  repeat ((first
    | refine take_load (by rfl) 24 (by rfl) (g := S) (n := 6) (by rfl) (t := 26) (xs := a) (fun w hw => hw.has qa0 (by omega)) Tryd.underlying24 rfl (by kernel_rfl) (by rw [ha.len]; decide) ?_
    | refine take_loadw (by rfl) 26 (by rfl) (g := S) (n := 12) (by rfl) (t := 26) (xs := a) (fun w hw => hw.has qa0 (by omega)) Tryd.underlying26 rfl (by kernel_rfl) ha.len ?_
    | refine take_build (by rfl) (by rfl) (by refine build2 ?_ ?_ <;> (with_reducible first | exact Nm.fe _ | exact Nm.F2 _ | assumption | exact nm_one | exact nm_Z6 | (refine Nm.seg (m := 12) ?_ (by decide); assumption) | exact Nm.seg (m := 12) (Nm.F2 _) (by decide) | exact Nm.app2 (.fe _) (.fe _) | fail)) ?_
    | refine wpTake_cons (.inl ⟨by rfl, fun w hw => (by unfold Oper.quietAt; go_simp; (first | with_reducible refine rRed ?_ _ | with_reducible refine rAdd ?_ ?_ _ | with_reducible refine rSub ?_ ?_ _ | with_reducible refine rMul ?_ ?_ _ | with_reducible refine rNeg ?_ _) <;> (with_reducible first | exact Nm.fe _ | exact Nm.F2 _ | assumption | exact nm_one | exact nm_Z6 | (refine Nm.seg (m := 12) ?_ (by decide); assumption) | exact Nm.seg (m := 12) (Nm.F2 _) (by decide) | exact Nm.app2 (.fe _) (.fe _) | fail))⟩) ?_
    | refine wpTake_cons (Steady.of_yields (Or.inl ⟨by rfl, fun w => (by first | (go_simp; done) | (go_simp; with_reducible rfl))⟩)) ?_); simp only [List.getElem_toArray, List.getElem_cons_zero, List.getElem_cons_succ, Act.put, List.setIfInBounds_toArray, List.set_cons_zero, List.set_cons_succ])
  refine wpTake_nil ?_
  refine tail_store (i := 7) (by rfl) (by kernel_rfl) (by kernel_rfl) (by rfl) 26 (.tmp 2) (.tmp 9) (by rfl) (by rfl) (S + 1) _ (by rfl) (by rfl) 26 _ qo0 (by rw [vals_size, (Nm.app (.fe _) (.fe _)).len]; kernel_rfl) (by rw [vals_size, vals_size, (Nm.app (.fe _) (.fe _)).len]; rfl) vals_one ?_
  intro w1 qo1 hbt
  have qa1 := hbt.has qa0 (by omega)
  have hb1 := hb0.trans (hbt.below (by omega) (HSS.out _ hb0))
  clear hbt hb0 qa0 qo0
  go_wp2
  refine bodyPost_ret (v := .agg (vals .u64 _)) (results_cell_row rfl _ _ (S + 1) _ _ _ _ rfl qo1.eq Tryd.underlying26 rfl (by rw [vals_size, (Nm.app (.fe _) (.fe _)).len]; kernel_rfl)) rfl ⟨rfl, hb1⟩

set_option maxRecDepth 100000 in
set_option maxHeartbeats 4000000 in
theorem refConj2 (a : List Int) (ha : Nm 12 a) (w : World) : Calls Tryd.prog 61 #[.agg (vals .u64 a)] w fun e w' => e = .returned (.agg (vals .u64 (F2 (gc (v2 a))))) ∧ Below w.heap.size w w' := by
  obtain ⟨S, hS⟩ : ∃ S, w.heap.size = S := ⟨_, rfl⟩
  have Lo : Keep (Z12.length = 12) := ⟨rfl⟩
  have qa0 : Has ((w.alloc (.cells (vals .u64 a) 26)).alloc (.cells (vals .u64 Z12) 26)) (S) 26 (vals .u64 a) := ((Has.new' _ hS.symm _ _).alloc _)
  have qo0 : Has ((w.alloc (.cells (vals .u64 a) 26)).alloc (.cells (vals .u64 Z12) 26)) (S + 1) 26 (vals .u64 Z12) := (Has.new' _ (by simp only [World.size_alloc, hS]) _ _)
  have hb0 : Below S w ((w.alloc (.cells (vals .u64 a) 26)).alloc (.cells (vals .u64 Z12) 26)) := by rw [← hS]; exact (((Below.refl _ _).alloc (Nat.le_refl _) _).alloc (by simp <;> omega) _)
  have hsz0 : ((w.alloc (.cells (vals .u64 a) 26)).alloc (.cells (vals .u64 Z12) 26)).heap.size = S + 2 := by simp only [World.size_alloc, hS]
  have HSS : Keep (∀ x : World, Below S w x → S ≤ x.heap.size) := ⟨fun x hb => Nat.le_trans (by omega) hb.size⟩
  rw [hS]
  go_enter Tryd.func61, Tryd.ntmps61
  go_wp2
  change Code.wp _ _ _ _ (((w.alloc (.cells (vals .u64 a) 26)).alloc (.cells (vals .u64 Z12) 26)))
  obtain ⟨w0, hw0⟩ : ∃ x, ((w.alloc (.cells (vals .u64 a) 26)).alloc (.cells (vals .u64 Z12) 26)) = x := ⟨_, rfl⟩
  rw [hw0] at hb0 hsz0 qa0 qo0 ⊢
  clear hw0
  refine wp_reads 7 1 (S + 1) (by kernel_rfl) (by kernel_rfl) (by rfl) (by kernel_rfl) (fun _ _ d _ _ h => by cases d <;> exact h) ?_
  simp only [List.take_succ_cons, List.take_zero]
  repeat ((first
    | refine take_load (by rfl) 24 (by rfl) (g := S) (n := 6) (by rfl) (t := 26) (xs := a) (fun w hw => hw.has qa0 (by omega)) Tryd.underlying24 rfl (by kernel_rfl) (by rw [ha.len]; decide) ?_
    | refine take_loadw (by rfl) 26 (by rfl) (g := S) (n := 12) (by rfl) (t := 26) (xs := a) (fun w hw => hw.has qa0 (by omega)) Tryd.underlying26 rfl (by kernel_rfl) ha.len ?_
    | refine take_build (by rfl) (by rfl) (by refine build2 ?_ ?_ <;> (with_reducible first | exact Nm.fe _ | exact Nm.F2 _ | assumption | exact nm_one | exact nm_Z6 | (refine Nm.seg (m := 12) ?_ (by decide); assumption) | exact Nm.seg (m := 12) (Nm.F2 _) (by decide) | exact Nm.app2 (.fe _) (.fe _) | fail)) ?_
    | refine wpTake_cons (.inl ⟨by rfl, fun w hw => (by unfold Oper.quietAt; go_simp; (first | with_reducible refine rRed ?_ _ | with_reducible refine rAdd ?_ ?_ _ | with_reducible refine rSub ?_ ?_ _ | with_reducible refine rMul ?_ ?_ _ | with_reducible refine rNeg ?_ _) <;> (with_reducible first | exact Nm.fe _ | exact Nm.F2 _ | assumption | exact nm_one | exact nm_Z6 | (refine Nm.seg (m := 12) ?_ (by decide); assumption) | exact Nm.seg (m := 12) (Nm.F2 _) (by decide) | exact Nm.app2 (.fe _) (.fe _) | fail))⟩) ?_
    | refine wpTake_cons (Steady.of_yields (Or.inl ⟨by rfl, fun w => (by first | (go_simp; done) | (go_simp; with_reducible rfl))⟩)) ?_); simp only [List.getElem_toArray, List.getElem_cons_zero, List.getElem_cons_succ, Act.put, List.setIfInBounds_toArray, List.set_cons_zero, List.set_cons_succ])
  refine wpTake_nil ?_
  refine tail_store (i := 7) (by rfl) (by kernel_rfl) (by kernel_rfl) (by rfl) 26 (.tmp 2) (.tmp 9) (by rfl) (by rfl) (S + 1) _ (by rfl) (by rfl) 26 _ qo0 (by rw [vals_size, (Nm.app (.fe _) (.fe _)).len]; kernel_rfl) (by rw [vals_size, vals_size, (Nm.app (.fe _) (.fe _)).len]; rfl) vals_one ?_
  intro w1 qo1 hbt
  have qa1 := hbt.has qa0 (by omega)
  have hb1 := hb0.trans (hbt.below (by omega) (HSS.out _ hb0))
  clear hbt hb0 qa0 qo0
  go_wp2
  refine bodyPost_ret (v := .agg (vals .u64 _)) (results_cell_row rfl _ _ (S + 1) _ _ _ _ rfl qo1.eq Tryd.underlying26 rfl (by rw [vals_size, (Nm.app (.fe _) (.fe _)).len]; kernel_rfl)) rfl ⟨rfl, hb1⟩

set_option maxRecDepth 100000 in
set_option maxHeartbeats 4000000 in
theorem refScale2 (a : List Int) (ha : Nm 12 a) (k : List Int) (hk : Nm 6 k) (w : World) : Calls Tryd.prog 62 #[.agg (vals .u64 a), .agg (vals .u64 k)] w fun e w' => e = .returned (.agg (vals .u64 (F2 (gk (v2 a) (num k))))) ∧ Below w.heap.size w w' := by
  obtain ⟨S, hS⟩ : ∃ S, w.heap.size = S := ⟨_, rfl⟩
  have Lo : Keep (Z12.length = 12) := ⟨rfl⟩
  have qa0 : Has (((w.alloc (.cells (vals .u64 a) 26)).alloc (.cells (vals .u64 k) 24)).alloc (.cells (vals .u64 Z12) 26)) (S) 26 (vals .u64 a) := (((Has.new' _ hS.symm _ _).alloc _).alloc _)
  have qk0 : Has (((w.alloc (.cells (vals .u64 a) 26)).alloc (.cells (vals .u64 k) 24)).alloc (.cells (vals .u64 Z12) 26)) (S + 1) 24 (vals .u64 k) := ((Has.new' _ (by simp only [World.size_alloc, hS]) _ _).alloc _)
  have qo0 : Has (((w.alloc (.cells (vals .u64 a) 26)).alloc (.cells (vals .u64 k) 24)).alloc (.cells (vals .u64 Z12) 26)) (S + 2) 26 (vals .u64 Z12) := (Has.new' _ (by simp only [World.size_alloc, hS]) _ _)
  have hb0 : Below S w (((w.alloc (.cells (vals .u64 a) 26)).alloc (.cells (vals .u64 k) 24)).alloc (.cells (vals .u64 Z12) 26)) := by rw [← hS]; exact ((((Below.refl _ _).alloc (Nat.le_refl _) _).alloc (by simp <;> omega) _).alloc (by simp <;> omega) _)
  have hsz0 : (((w.alloc (.cells (vals .u64 a) 26)).alloc (.cells (vals .u64 k) 24)).alloc (.cells (vals .u64 Z12) 26)).heap.size = S + 3 := by simp only [World.size_alloc, hS]
  have HSS : Keep (∀ x : World, Below S w x → S ≤ x.heap.size) := ⟨fun x hb => Nat.le_trans (by omega) hb.size⟩
  rw [hS]
  go_enter Tryd.func62, Tryd.ntmps62
  go_wp2
  change Code.wp _ _ _ _ ((((w.alloc (.cells (vals .u64 a) 26)).alloc (.cells (vals .u64 k) 24)).alloc (.cells (vals .u64 Z12) 26)))
  obtain ⟨w0, hw0⟩ : ∃ x, (((w.alloc (.cells (vals .u64 a) 26)).alloc (.cells (vals .u64 k) 24)).alloc (.cells (vals .u64 Z12) 26)) = x := ⟨_, rfl⟩
  rw [hw0] at hb0 hsz0 qa0 qk0 qo0 ⊢
  clear hw0
  refine wp_reads 9 1 (S + 2) (by kernel_rfl) (by kernel_rfl) (by rfl) (by kernel_rfl) (fun _ _ d _ _ h => by cases d <;> exact h) ?_
  simp only [List.take_succ_cons, List.take_zero]
  repeat ((first
    | refine take_load (by rfl) 24 (by rfl) (g := S) (n := 6) (by rfl) (t := 26) (xs := a) (fun w hw => hw.has qa0 (by omega)) Tryd.underlying24 rfl (by kernel_rfl) (by rw [ha.len]; decide) ?_
    | refine take_loadw (by rfl) 26 (by rfl) (g := S) (n := 12) (by rfl) (t := 26) (xs := a) (fun w hw => hw.has qa0 (by omega)) Tryd.underlying26 rfl (by kernel_rfl) ha.len ?_
    | refine take_loadw (by rfl) 24 (by rfl) (g := S + 1) (n := 6) (by rfl) (t := 24) (xs := k) (fun w hw => hw.has qk0 (by omega)) Tryd.underlying24 rfl (by kernel_rfl) hk.len ?_
    | refine take_build (by rfl) (by rfl) (by refine build2 ?_ ?_ <;> (with_reducible first | exact Nm.fe _ | exact Nm.F2 _ | assumption | exact nm_one | exact nm_Z6 | (refine Nm.seg (m := 12) ?_ (by decide); assumption) | exact Nm.seg (m := 12) (Nm.F2 _) (by decide) | exact Nm.app2 (.fe _) (.fe _) | fail)) ?_
    | refine wpTake_cons (.inl ⟨by rfl, fun w hw => (by unfold Oper.quietAt; go_simp; (first | with_reducible refine rRed ?_ _ | with_reducible refine rAdd ?_ ?_ _ | with_reducible refine rSub ?_ ?_ _ | with_reducible refine rMul ?_ ?_ _ | with_reducible refine rNeg ?_ _) <;> (with_reducible first | exact Nm.fe _ | exact Nm.F2 _ | assumption | exact nm_one | exact nm_Z6 | (refine Nm.seg (m := 12) ?_ (by decide); assumption) | exact Nm.seg (m := 12) (Nm.F2 _) (by decide) | exact Nm.app2 (.fe _) (.fe _) | fail))⟩) ?_
    | refine wpTake_cons (Steady.of_yields (Or.inl ⟨by rfl, fun w => (by first | (go_simp; done) | (go_simp; with_reducible rfl))⟩)) ?_); simp only [List.getElem_toArray, List.getElem_cons_zero, List.getElem_cons_succ, Act.put, List.setIfInBounds_toArray, List.set_cons_zero, List.set_cons_succ])
  refine wpTake_nil ?_
  refine tail_store (i := 9) (by rfl) (by kernel_rfl) (by kernel_rfl) (by rfl) 26 (.tmp 4) (.tmp 13) (by rfl) (by rfl) (S + 2) _ (by rfl) (by rfl) 26 _ qo0 (by rw [vals_size, (Nm.app (.fe _) (.fe _)).len]; kernel_rfl) (by rw [vals_size, vals_size, (Nm.app (.fe _) (.fe _)).len]; rfl) vals_one ?_
  intro w1 qo1 hbt
  have qa1 := hbt.has qa0 (by omega)
  have qk1 := hbt.has qk0 (by omega)
  have hb1 := hb0.trans (hbt.below (by omega) (HSS.out _ hb0))
  clear hbt hb0 qa0 qk0 qo0
  go_wp2
  refine bodyPost_ret (v := .agg (vals .u64 _)) (results_cell_row rfl _ _ (S + 2) _ _ _ _ rfl qo1.eq Tryd.underlying26 rfl (by rw [vals_size, (Nm.app (.fe _) (.fe _)).len]; kernel_rfl)) rfl ⟨rfl, hb1⟩

set_option maxRecDepth 100000 in
set_option maxHeartbeats 4000000 in
theorem refSub2 (a : List Int) (ha : Nm 12 a) (b : List Int) (hb : Nm 12 b) (w : World) : Calls Tryd.prog 41 #[.agg (vals .u64 a), .agg (vals .u64 b)] w fun e w' => e = .returned (.agg (vals .u64 (F2 (gs (v2 a) (v2 b))))) ∧ Below w.heap.size w w' := by
  obtain ⟨S, hS⟩ : ∃ S, w.heap.size = S := ⟨_, rfl⟩
  have Lo : Keep (Z12.length = 12) := ⟨rfl⟩
  have qa0 : Has (((w.alloc (.cells (vals .u64 a) 26)).alloc (.cells (vals .u64 b) 26)).alloc (.cells (vals .u64 Z12) 26)) (S) 26 (vals .u64 a) := (((Has.new' _ hS.symm _ _).alloc _).alloc _)
  have qb0 : Has (((w.alloc (.cells (vals .u64 a) 26)).alloc (.cells (vals .u64 b) 26)).alloc (.cells (vals .u64 Z12) 26)) (S + 1) 26 (vals .u64 b) := ((Has.new' _ (by simp only [World.size_alloc, hS]) _ _).alloc _)
  have qo0 : Has (((w.alloc (.cells (vals .u64 a) 26)).alloc (.cells (vals .u64 b) 26)).alloc (.cells (vals .u64 Z12) 26)) (S + 2) 26 (vals .u64 Z12) := (Has.new' _ (by simp only [World.size_alloc, hS]) _ _)
  have hb0 : Below S w (((w.alloc (.cells (vals .u64 a) 26)).alloc (.cells (vals .u64 b) 26)).alloc (.cells (vals .u64 Z12) 26)) := by rw [← hS]; exact ((((Below.refl _ _).alloc (Nat.le_refl _) _).alloc (by simp <;> omega) _).alloc (by simp <;> omega) _)
  have hsz0 : (((w.alloc (.cells (vals .u64 a) 26)).alloc (.cells (vals .u64 b) 26)).alloc (.cells (vals .u64 Z12) 26)).heap.size = S + 3 := by simp only [World.size_alloc, hS]
  have HSS : Keep (∀ x : World, Below S w x → S ≤ x.heap.size) := ⟨fun x hb => Nat.le_trans (by omega) hb.size⟩
  rw [hS]
  go_enter Tryd.func41, Tryd.ntmps41
  go_wp2
  change Code.wp _ _ _ _ ((((w.alloc (.cells (vals .u64 a) 26)).alloc (.cells (vals .u64 b) 26)).alloc (.cells (vals .u64 Z12) 26)))
  obtain ⟨w0, hw0⟩ : ∃ x, (((w.alloc (.cells (vals .u64 a) 26)).alloc (.cells (vals .u64 b) 26)).alloc (.cells (vals .u64 Z12) 26)) = x := ⟨_, rfl⟩
  rw [hw0] at hb0 hsz0 qa0 qb0 qo0 ⊢
  clear hw0
  refine wp_reads 4 1 (S + 2) (by kernel_rfl) (by kernel_rfl) (by rfl) (by kernel_rfl) (fun _ _ d _ _ h => by cases d <;> exact h) ?_
  simp only [List.take_succ_cons, List.take_zero]
  repeat ((first
    | refine take_load (by rfl) 24 (by rfl) (g := S) (n := 6) (by rfl) (t := 26) (xs := a) (fun w hw => hw.has qa0 (by omega)) Tryd.underlying24 rfl (by kernel_rfl) (by rw [ha.len]; decide) ?_
    | refine take_loadw (by rfl) 26 (by rfl) (g := S) (n := 12) (by rfl) (t := 26) (xs := a) (fun w hw => hw.has qa0 (by omega)) Tryd.underlying26 rfl (by kernel_rfl) ha.len ?_
    | refine take_load (by rfl) 24 (by rfl) (g := S + 1) (n := 6) (by rfl) (t := 26) (xs := b) (fun w hw => hw.has qb0 (by omega)) Tryd.underlying24 rfl (by kernel_rfl) (by rw [hb.len]; decide) ?_
    | refine take_loadw (by rfl) 26 (by rfl) (g := S + 1) (n := 12) (by rfl) (t := 26) (xs := b) (fun w hw => hw.has qb0 (by omega)) Tryd.underlying26 rfl (by kernel_rfl) hb.len ?_
    | refine take_build (by rfl) (by rfl) (by refine build2 ?_ ?_ <;> (with_reducible first | exact Nm.fe _ | exact Nm.F2 _ | assumption | exact nm_one | exact nm_Z6 | (refine Nm.seg (m := 12) ?_ (by decide); assumption) | exact Nm.seg (m := 12) (Nm.F2 _) (by decide) | exact Nm.app2 (.fe _) (.fe _) | fail)) ?_
    | refine wpTake_cons (.inl ⟨by rfl, fun w hw => (by unfold Oper.quietAt; go_simp; (first | with_reducible refine refNeg2 _ ?_ _ | with_reducible refine refAdd2 _ ?_ _ ?_ _) <;> (with_reducible first | exact Nm.fe _ | exact Nm.F2 _ | assumption | exact nm_one | exact nm_Z6 | (refine Nm.seg (m := 12) ?_ (by decide); assumption) | exact Nm.seg (m := 12) (Nm.F2 _) (by decide) | exact Nm.app2 (.fe _) (.fe _) | fail))⟩) ?_
    | refine wpTake_cons (Steady.of_yields (Or.inl ⟨by rfl, fun w => (by first | (go_simp; done) | (go_simp; with_reducible rfl))⟩)) ?_); simp only [List.getElem_toArray, List.getElem_cons_zero, List.getElem_cons_succ, Act.put, List.setIfInBounds_toArray, List.set_cons_zero, List.set_cons_succ])
  refine wpTake_nil ?_
  refine tail_store (i := 4) (by rfl) (by kernel_rfl) (by kernel_rfl) (by rfl) 26 (.tmp 4) (.tmp 8) (by rfl) (by rfl) (S + 2) _ (by rfl) (by rfl) 26 _ qo0 (by rw [vals_size, (Nm.F2 _).len]; kernel_rfl) (by rw [vals_size, vals_size, (Nm.F2 _).len]; rfl) vals_one ?_
  intro w1 qo1 hbt
  have qa1 := hbt.has qa0 (by omega)
  have qb1 := hbt.has qb0 (by omega)
  have hb1 := hb0.trans (hbt.below (by omega) (HSS.out _ hb0))
  clear hbt hb0 qa0 qb0 qo0
  go_wp2
  refine bodyPost_ret (v := .agg (vals .u64 _)) (results_cell_row rfl _ _ (S + 2) _ _ _ _ rfl qo1.eq Tryd.underlying26 rfl (by rw [vals_size, (Nm.F2 _).len]; kernel_rfl)) rfl ⟨ret_eq (congrArg (fun z => Value.agg (vals .u64 z)) (F2_eq (by rw [gs_eq]; exact ga_congr E2.rfl (v2_F2 _)))), hb1⟩

set_option maxRecDepth 100000 in
set_option maxHeartbeats 4000000 in
theorem refMul2 (a : List Int) (ha : Nm 12 a) (b : List Int) (hb : Nm 12 b) (w : World) : Calls Tryd.prog 38 #[.agg (vals .u64 a), .agg (vals .u64 b)] w fun e w' => e = .returned (.agg (vals .u64 (F2 (gm (v2 a) (v2 b))))) ∧ Below w.heap.size w w' := by
  obtain ⟨S, hS⟩ : ∃ S, w.heap.size = S := ⟨_, rfl⟩
  have Lo : Keep (Z12.length = 12) := ⟨rfl⟩
  have qa0 : Has (((w.alloc (.cells (vals .u64 a) 26)).alloc (.cells (vals .u64 b) 26)).alloc (.cells (vals .u64 Z12) 26)) (S) 26 (vals .u64 a) := (((Has.new' _ hS.symm _ _).alloc _).alloc _)
  have qb0 : Has (((w.alloc (.cells (vals .u64 a) 26)).alloc (.cells (vals .u64 b) 26)).alloc (.cells (vals .u64 Z12) 26)) (S + 1) 26 (vals .u64 b) := ((Has.new' _ (by simp only [World.size_alloc, hS]) _ _).alloc _)
  have qo0 : Has (((w.alloc (.cells (vals .u64 a) 26)).alloc (.cells (vals .u64 b) 26)).alloc (.cells (vals .u64 Z12) 26)) (S + 2) 26 (vals .u64 Z12) := (Has.new' _ (by simp only [World.size_alloc, hS]) _ _)
  have hb0 : Below S w (((w.alloc (.cells (vals .u64 a) 26)).alloc (.cells (vals .u64 b) 26)).alloc (.cells (vals .u64 Z12) 26)) := by rw [← hS]; exact ((((Below.refl _ _).alloc (Nat.le_refl _) _).alloc (by simp <;> omega) _).alloc (by simp <;> omega) _)
  have hsz0 : (((w.alloc (.cells (vals .u64 a) 26)).alloc (.cells (vals .u64 b) 26)).alloc (.cells (vals .u64 Z12) 26)).heap.size = S + 3 := by simp only [World.size_alloc, hS]
  have HSS : Keep (∀ x : World, Below S w x → S ≤ x.heap.size) := ⟨fun x hb => Nat.le_trans (by omega) hb.size⟩
  rw [hS]
  go_enter Tryd.func38, Tryd.ntmps38
  go_wp2
  change Code.wp _ _ _ _ ((((w.alloc (.cells (vals .u64 a) 26)).alloc (.cells (vals .u64 b) 26)).alloc (.cells (vals .u64 Z12) 26)))
  obtain ⟨w0, hw0⟩ : ∃ x, (((w.alloc (.cells (vals .u64 a) 26)).alloc (.cells (vals .u64 b) 26)).alloc (.cells (vals .u64 Z12) 26)) = x := ⟨_, rfl⟩
  rw [hw0] at hb0 hsz0 qa0 qb0 qo0 ⊢
  clear hw0
  refine wp_reads 11 2 w0.heap.size (by kernel_rfl) (by kernel_rfl) (by rfl) (by kernel_rfl) (fun _ _ d _ _ h => by cases d <;> exact h) ?_
  simp only [List.take_succ_cons, List.take_zero]
  repeat ((first
    | refine take_load (by rfl) 24 (by rfl) (g := S) (n := 6) (by rfl) (t := 26) (xs := a) (fun w hw => hw.has qa0 (Nat.ne_of_lt qa0.lt)) Tryd.underlying24 rfl (by kernel_rfl) (by rw [ha.len]; decide) ?_
    | refine take_loadw (by rfl) 26 (by rfl) (g := S) (n := 12) (by rfl) (t := 26) (xs := a) (fun w hw => hw.has qa0 (Nat.ne_of_lt qa0.lt)) Tryd.underlying26 rfl (by kernel_rfl) ha.len ?_
    | refine take_load (by rfl) 24 (by rfl) (g := S + 1) (n := 6) (by rfl) (t := 26) (xs := b) (fun w hw => hw.has qb0 (Nat.ne_of_lt qb0.lt)) Tryd.underlying24 rfl (by kernel_rfl) (by rw [hb.len]; decide) ?_
    | refine take_loadw (by rfl) 26 (by rfl) (g := S + 1) (n := 12) (by rfl) (t := 26) (xs := b) (fun w hw => hw.has qb0 (Nat.ne_of_lt qb0.lt)) Tryd.underlying26 rfl (by kernel_rfl) hb.len ?_
    | refine take_load (by rfl) 24 (by rfl) (g := S + 2) (n := 6) (by rfl) (t := 26) (xs := Z12) (fun w hw => hw.has qo0 (Nat.ne_of_lt qo0.lt)) Tryd.underlying24 rfl (by kernel_rfl) (by rw [Lo.out]; decide) ?_
    | refine take_loadw (by rfl) 26 (by rfl) (g := S + 2) (n := 12) (by rfl) (t := 26) (xs := Z12) (fun w hw => hw.has qo0 (Nat.ne_of_lt qo0.lt)) Tryd.underlying26 rfl (by kernel_rfl) Lo.out ?_
    | refine take_build (by rfl) (by rfl) (by refine build2 ?_ ?_ <;> (with_reducible first | exact Nm.fe _ | exact Nm.F2 _ | assumption | exact nm_one | exact nm_Z6 | (refine Nm.seg (m := 12) ?_ (by decide); assumption) | exact Nm.seg (m := 12) (Nm.F2 _) (by decide) | exact Nm.app2 (.fe _) (.fe _) | fail)) ?_
    | refine wpTake_cons (.inl ⟨by rfl, fun w hw => (by unfold Oper.quietAt; go_simp; (first | with_reducible refine rRed ?_ _ | with_reducible refine rAdd ?_ ?_ _ | with_reducible refine rSub ?_ ?_ _ | with_reducible refine rMul ?_ ?_ _ | with_reducible refine rNeg ?_ _) <;> (with_reducible first | exact Nm.fe _ | exact Nm.F2 _ | assumption | exact nm_one | exact nm_Z6 | (refine Nm.seg (m := 12) ?_ (by decide); assumption) | exact Nm.seg (m := 12) (Nm.F2 _) (by decide) | exact Nm.app2 (.fe _) (.fe _) | fail))⟩) ?_
    | refine wpTake_cons (Steady.of_yields (Or.inl ⟨by rfl, fun w => (by first | (go_simp; done) | (go_simp; with_reducible rfl))⟩)) ?_); simp only [List.getElem_toArray, List.getElem_cons_zero, List.getElem_cons_succ, Act.put, List.setIfInBounds_toArray, List.set_cons_zero, List.set_cons_succ])
  refine wpTake_nil ?_
  refine tail_new (i := 11) (j := 12) (by rfl) (by rfl) (by kernel_rfl) (by kernel_rfl) (by kernel_rfl) (by rfl) 24 5 (by rfl) (by rfl) (by rfl) (.tmp 5) (.tmp 17) (by rfl) (by rfl) _ (vals .u64 Z6) (fun _ => by rfl) (fun _ => by rfl) (by exact ⟨_, _, rfl, rfl, by kernel_rfl⟩) (by rw [vals_size, (Nm.fe _).len]; kernel_rfl) (by rw [vals_size, vals_size, (Nm.fe _).len]; rfl) vals_one ?_
  intro w1 gx hgx qx1 hbt
  simp only [List.getElem_toArray, List.getElem_cons_zero, List.getElem_cons_succ, Act.put, List.setIfInBounds_toArray, List.set_cons_zero, List.set_cons_succ]
  have qa1 := qa0.keep hbt
  have Nax := Nat.lt_of_lt_of_le qa0.lt hgx
  have qb1 := qb0.keep hbt
  have Nbx := Nat.lt_of_lt_of_le qb0.lt hgx
  have qo1 := qo0.keep hbt
  have Nox := Nat.lt_of_lt_of_le qo0.lt hgx
  have hb1 := hb0.trans (hbt.mono (HSS.out _ hb0))
  have Mx : S ≤ gx := Nat.le_trans (HSS.out _ hb0) hgx
  clear hbt hgx hb0 qa0 qb0 qo0
  go_wp2
  refine wp_reads 11 2 w1.heap.size (by kernel_rfl) (by kernel_rfl) (by rfl) (by kernel_rfl) (fun _ _ d _ _ h => by cases d <;> exact h) ?_
  simp only [List.take_succ_cons, List.take_zero]
  repeat ((first
    | refine take_load (by rfl) 24 (by rfl) (g := S) (n := 6) (by rfl) (t := 26) (xs := a) (fun w hw => hw.has qa1 (Nat.ne_of_lt qa1.lt)) Tryd.underlying24 rfl (by kernel_rfl) (by rw [ha.len]; decide) ?_
    | refine take_loadw (by rfl) 26 (by rfl) (g := S) (n := 12) (by rfl) (t := 26) (xs := a) (fun w hw => hw.has qa1 (Nat.ne_of_lt qa1.lt)) Tryd.underlying26 rfl (by kernel_rfl) ha.len ?_
    | refine take_load (by rfl) 24 (by rfl) (g := S + 1) (n := 6) (by rfl) (t := 26) (xs := b) (fun w hw => hw.has qb1 (Nat.ne_of_lt qb1.lt)) Tryd.underlying24 rfl (by kernel_rfl) (by rw [hb.len]; decide) ?_
    | refine take_loadw (by rfl) 26 (by rfl) (g := S + 1) (n := 12) (by rfl) (t := 26) (xs := b) (fun w hw => hw.has qb1 (Nat.ne_of_lt qb1.lt)) Tryd.underlying26 rfl (by kernel_rfl) hb.len ?_
    | refine take_load (by rfl) 24 (by rfl) (g := S + 2) (n := 6) (by rfl) (t := 26) (xs := Z12) (fun w hw => hw.has qo1 (Nat.ne_of_lt qo1.lt)) Tryd.underlying24 rfl (by kernel_rfl) (by rw [Lo.out]; decide) ?_
    | refine take_loadw (by rfl) 26 (by rfl) (g := S + 2) (n := 12) (by rfl) (t := 26) (xs := Z12) (fun w hw => hw.has qo1 (Nat.ne_of_lt qo1.lt)) Tryd.underlying26 rfl (by kernel_rfl) Lo.out ?_
    | refine take_loadw (by rfl) 24 (by rfl) (g := gx) (n := 6) (by rfl) (t := 24) (xs := (fe (num (fe (num (seg 0 6 a) * num (seg 0 6 b))) - num (fe (num (seg 6 6 a) * num (seg 6 6 b)))))) (fun w hw => hw.has qx1 (Nat.ne_of_lt qx1.lt)) Tryd.underlying24 rfl (by kernel_rfl) (Nm.fe _).len ?_
    | refine take_build (by rfl) (by rfl) (by refine build2 ?_ ?_ <;> (with_reducible first | exact Nm.fe _ | exact Nm.F2 _ | assumption | exact nm_one | exact nm_Z6 | (refine Nm.seg (m := 12) ?_ (by decide); assumption) | exact Nm.seg (m := 12) (Nm.F2 _) (by decide) | exact Nm.app2 (.fe _) (.fe _) | fail)) ?_
    | refine wpTake_cons (.inl ⟨by rfl, fun w hw => (by unfold Oper.quietAt; go_simp; (first | with_reducible refine rRed ?_ _ | with_reducible refine rAdd ?_ ?_ _ | with_reducible refine rSub ?_ ?_ _ | with_reducible refine rMul ?_ ?_ _ | with_reducible refine rNeg ?_ _) <;> (with_reducible first | exact Nm.fe _ | exact Nm.F2 _ | assumption | exact nm_one | exact nm_Z6 | (refine Nm.seg (m := 12) ?_ (by decide); assumption) | exact Nm.seg (m := 12) (Nm.F2 _) (by decide) | exact Nm.app2 (.fe _) (.fe _) | fail))⟩) ?_
    | refine wpTake_cons (Steady.of_yields (Or.inl ⟨by rfl, fun w => (by first | (go_simp; done) | (go_simp; with_reducible rfl))⟩)) ?_); simp only [List.getElem_toArray, List.getElem_cons_zero, List.getElem_cons_succ, Act.put, List.setIfInBounds_toArray, List.set_cons_zero, List.set_cons_succ])
  refine wpTake_nil ?_
  refine tail_new (i := 11) (j := 12) (by rfl) (by rfl) (by kernel_rfl) (by kernel_rfl) (by kernel_rfl) (by rfl) 24 6 (by rfl) (by rfl) (by rfl) (.tmp 6) (.tmp 28) (by rfl) (by rfl) _ (vals .u64 Z6) (fun _ => by rfl) (fun _ => by rfl) (by exact ⟨_, _, rfl, rfl, by kernel_rfl⟩) (by rw [vals_size, (Nm.fe _).len]; kernel_rfl) (by rw [vals_size, vals_size, (Nm.fe _).len]; rfl) vals_one ?_
  intro w2 gy hgy qy2 hbt
  simp only [List.getElem_toArray, List.getElem_cons_zero, List.getElem_cons_succ, Act.put, List.setIfInBounds_toArray, List.set_cons_zero, List.set_cons_succ]
  have qa2 := qa1.keep hbt
  have Nay := Nat.lt_of_lt_of_le qa1.lt hgy
  have qb2 := qb1.keep hbt
  have Nby := Nat.lt_of_lt_of_le qb1.lt hgy
  have qo2 := qo1.keep hbt
  have Noy := Nat.lt_of_lt_of_le qo1.lt hgy
  have qx2 := qx1.keep hbt
  have Nxy := Nat.lt_of_lt_of_le qx1.lt hgy
  have hb2 := hb1.trans (hbt.mono (HSS.out _ hb1))
  have My : S ≤ gy := Nat.le_trans (HSS.out _ hb1) hgy
  clear hbt hgy hb1 qa1 qb1 qo1 qx1
  go_wp2_with (first
    | (refine store_abs2 (by rfl) 26 (.tmp 4) (.tmp 31) (by rfl) (by rfl) (S + 2) (vals .u64 (fe (num (fe (num (seg 0 6 a) * num (seg 0 6 b))) - num (fe (num (seg 6 6 a) * num (seg 6 6 b)))) ++ fe (num (fe (num (seg 0 6 a) * num (seg 6 6 b))) + num (fe (num (seg 6 6 a) * num (seg 0 6 b)))))) (by rfl) (by rfl) 26 _ qo2 (by rw [vals_size, (Nm.app (.fe _) (.fe _)).len]; kernel_rfl) (by rw [vals_size, vals_size, (Nm.app (.fe _) (.fe _)).len, Lo.out]) vals_one ?_
       intro w3 qo3 hkeep hbg
       have qa3 := hkeep _ _ _ qa2 (by omega)
       have qb3 := hkeep _ _ _ qb2 (by omega)
       have qx3 := hkeep _ _ _ qx2 (by omega)
       have qy3 := hkeep _ _ _ qy2 (by omega)
       have hb3 := hb2.trans (hbg.mono (by omega))
       clear hkeep hbg hb2 qa2 qb2 qo2 qx2 qy2)
    | (refine wpList_buildTo (by rfl) 26 #[(0, .tmp 29), (1, .tmp 30)] (by rfl) (some 31) (by rfl) _ (by rw [Array.toList_map]; exact build2 (.fe _) (.fe _)) ?_)
    | (refine wpList_load_row rfl 24 (.tmp 6) rfl (gy) rfl _ _ _ _ qy2.eq Tryd.underlying24 rfl (by rw [vals_size, (Nm.fe _).len]; kernel_rfl) ?_)
    | (refine wpList_load_row rfl 24 (.tmp 5) rfl (gx) rfl _ _ _ _ qx2.eq Tryd.underlying24 rfl (by rw [vals_size, (Nm.fe _).len]; kernel_rfl) ?_))
  refine bodyPost_ret (v := .agg (vals .u64 _)) (results_cell_row rfl _ _ (S + 2) _ _ _ _ rfl qo3.eq Tryd.underlying26 rfl (by rw [vals_size, (Nm.app (.fe _) (.fe _)).len]; kernel_rfl)) rfl ⟨ret_eq (congrArg (fun z => Value.agg (vals .u64 z)) (show _ = F2 (gm (v2 a) (v2 b)) by rw [F2, fe_subl, fe_subr, fe_addl, fe_addr]; rfl)), hb3⟩

theorem inv_eq (a : List Int) : E2 (gk (v2 (F2 (gc (v2 a)))) (num (Fp.fe (pw (num (seg 0 6 (F2 (gm (v2 a) (v2 (F2 (gc (v2 a)))))))) (PP - 2))))) (gi (v2 a)) := by
  refine gk_congr (v2_F2 _) ?_
  rw [num_fe, Int.emod_emod, seg_F2a]
  refine pw_congr ?_ _
  rw [num_fe, Int.emod_emod]
  have h := (gm_congr (E2.rfl (p := v2 a)) (v2_F2 (gc (v2 a)))).1
  rw [gm_gc] at h
  exact h

set_option maxRecDepth 100000 in
set_option maxHeartbeats 4000000 in
theorem refInv2 (a : List Int) (ha : Nm 12 a) (w : World) : Calls Tryd.prog 42 #[.agg (vals .u64 a)] w fun e w' => e = .returned (.agg (vals .u64 (F2 (gi (v2 a))))) ∧ Below w.heap.size w w' := by
  obtain ⟨S, hS⟩ : ∃ S, w.heap.size = S := ⟨_, rfl⟩
  have Lo : Keep (Z12.length = 12) := ⟨rfl⟩
  have qa0 : Has ((w.alloc (.cells (vals .u64 a) 26)).alloc (.cells (vals .u64 Z12) 26)) (S) 26 (vals .u64 a) := ((Has.new' _ hS.symm _ _).alloc _)
  have qo0 : Has ((w.alloc (.cells (vals .u64 a) 26)).alloc (.cells (vals .u64 Z12) 26)) (S + 1) 26 (vals .u64 Z12) := (Has.new' _ (by simp only [World.size_alloc, hS]) _ _)
  have hb0 : Below S w ((w.alloc (.cells (vals .u64 a) 26)).alloc (.cells (vals .u64 Z12) 26)) := by rw [← hS]; exact (((Below.refl _ _).alloc (Nat.le_refl _) _).alloc (by simp <;> omega) _)
  have hsz0 : ((w.alloc (.cells (vals .u64 a) 26)).alloc (.cells (vals .u64 Z12) 26)).heap.size = S + 2 := by simp only [World.size_alloc, hS]
  have HSS : Keep (∀ x : World, Below S w x → S ≤ x.heap.size) := ⟨fun x hb => Nat.le_trans (by omega) hb.size⟩
  rw [hS]
  go_enter Tryd.func42, Tryd.ntmps42
  go_wp2_with (first
    | (refine store_abs2 (by rfl) 26 (.tmp 4) (.tmp 9) (by rfl) (by rfl) (w3.heap.size) (vals .u64 (F2 (gm (v2 a) (v2 (F2 (gc (v2 a))))))) (by rfl) (by rfl) 26 (vals .u64 Z12) (Has.new' _ rfl _ _) (by rw [vals_size, (Nm.F2 _).len]; kernel_rfl) (by rw [vals_size, vals_size, (Nm.F2 _).len]; rfl) vals_one ?_
       intro w4 qm4 hkeep hbg
       have hbe := ((Below.refl w3.heap.size w3).alloc (Nat.le_refl _) (.cells (vals .u64 Z12) 26)).trans hbg
       have Nam := qa3.lt
       have qa4 := qa3.keep hbe
       have Nom := qo3.lt
       have qo4 := qo3.keep hbe
       have Ncm := qc3.lt
       have qc4 := qc3.keep hbe
       have Mm : S ≤ w3.heap.size := HSS.out _ hb3
       have hb4 := hb3.trans (hbe.mono Mm)
       clear hkeep hbg hbe hb3 qa3 qo3 qc3)
    | (have hq0 := hb2
       clear hq0
       go_at_call 38
       refine (refMul2 a ha (F2 (gc (v2 a))) (.F2 _) _).mono ?_
       rintro e w3 ⟨rfl, hq⟩
       have qa3 := qa2.keep hq
       have qo3 := qo2.keep hq
       have qc3 := qc2.keep hq
       have hb3 := hb2.trans (hq.mono (HSS.out _ hb2))
       clear hq hb2 qa2 qo2 qc2)
    | (refine wpList_load_row rfl 26 (.tmp 3) rfl (w1.heap.size) rfl _ _ _ _ qc2.eq Tryd.underlying26 rfl (by rw [vals_size, (Nm.F2 _).len]; kernel_rfl) ?_)
    | (refine wpList_load_row rfl 26 (.tmp 1) rfl (S) rfl _ _ _ _ qa2.eq Tryd.underlying26 rfl (by rw [vals_size, ha.len]; kernel_rfl) ?_)
    | (refine store_abs2 (by rfl) 26 (.tmp 3) (.tmp 6) (by rfl) (by rfl) (w1.heap.size) (vals .u64 (F2 (gc (v2 a)))) (by rfl) (by rfl) 26 (vals .u64 Z12) (Has.new' _ rfl _ _) (by rw [vals_size, (Nm.F2 _).len]; kernel_rfl) (by rw [vals_size, vals_size, (Nm.F2 _).len]; rfl) vals_one ?_
       intro w2 qc2 hkeep hbg
       have hbe := ((Below.refl w1.heap.size w1).alloc (Nat.le_refl _) (.cells (vals .u64 Z12) 26)).trans hbg
       have Nac := qa1.lt
       have qa2 := qa1.keep hbe
       have Noc := qo1.lt
       have qo2 := qo1.keep hbe
       have Mc : S ≤ w1.heap.size := HSS.out _ hb1
       have hb2 := hb1.trans (hbe.mono Mc)
       clear hkeep hbg hbe hb1 qa1 qo1)
    | (have hq0 := hb0
       clear hq0
       go_at_call 61
       refine (refConj2 a ha _).mono ?_
       rintro e w1 ⟨rfl, hq⟩
       have qa1 := qa0.keep hq
       have qo1 := qo0.keep hq
       have hb1 := hb0.trans (hq.mono (HSS.out _ hb0))
       clear hq hb0 qa0 qo0)
    | (refine wpList_load_row rfl 26 (.tmp 1) rfl (S) rfl _ _ _ _ qa0.eq Tryd.underlying26 rfl (by rw [vals_size, ha.len]; kernel_rfl) ?_))
  refine wp_reads 5 1 (S + 1) (by kernel_rfl) (by kernel_rfl) (by rfl) (by kernel_rfl) (fun _ _ d _ _ h => by cases d <;> exact h) ?_
  simp only [List.take_succ_cons, List.take_zero]
  repeat ((first
    | refine take_load (by rfl) 24 (by rfl) (g := S) (n := 6) (by rfl) (t := 26) (xs := a) (fun w hw => hw.has qa4 (by omega)) Tryd.underlying24 rfl (by kernel_rfl) (by rw [ha.len]; decide) ?_
    | refine take_loadw (by rfl) 26 (by rfl) (g := S) (n := 12) (by rfl) (t := 26) (xs := a) (fun w hw => hw.has qa4 (by omega)) Tryd.underlying26 rfl (by kernel_rfl) ha.len ?_
    | refine take_load (by rfl) 24 (by rfl) (g := w1.heap.size) (n := 6) (by rfl) (t := 26) (xs := (F2 (gc (v2 a)))) (fun w hw => hw.has qc4 (by omega)) Tryd.underlying24 rfl (by kernel_rfl) (by rw [(Nm.F2 _).len]; decide) ?_
    | refine take_loadw (by rfl) 26 (by rfl) (g := w1.heap.size) (n := 12) (by rfl) (t := 26) (xs := (F2 (gc (v2 a)))) (fun w hw => hw.has qc4 (by omega)) Tryd.underlying26 rfl (by kernel_rfl) (Nm.F2 _).len ?_
    | refine take_load (by rfl) 24 (by rfl) (g := w3.heap.size) (n := 6) (by rfl) (t := 26) (xs := (F2 (gm (v2 a) (v2 (F2 (gc (v2 a))))))) (fun w hw => hw.has qm4 (by omega)) Tryd.underlying24 rfl (by kernel_rfl) (by rw [(Nm.F2 _).len]; decide) ?_
    | refine take_loadw (by rfl) 26 (by rfl) (g := w3.heap.size) (n := 12) (by rfl) (t := 26) (xs := (F2 (gm (v2 a) (v2 (F2 (gc (v2 a))))))) (fun w hw => hw.has qm4 (by omega)) Tryd.underlying26 rfl (by kernel_rfl) (Nm.F2 _).len ?_
    | refine take_build (by rfl) (by rfl) (by refine build2 ?_ ?_ <;> (with_reducible first | exact Nm.fe _ | exact Nm.F2 _ | assumption | exact nm_one | exact nm_Z6 | (refine Nm.seg (m := 12) ?_ (by decide); assumption) | exact Nm.seg (m := 12) (Nm.F2 _) (by decide) | exact Nm.app2 (.fe _) (.fe _) | fail)) ?_
    | refine wpTake_cons (.inl ⟨by rfl, fun w hw => (by unfold Oper.quietAt; go_simp; (first | with_reducible refine rRed ?_ _ | with_reducible refine rAdd ?_ ?_ _ | with_reducible refine rSub ?_ ?_ _ | with_reducible refine rMul ?_ ?_ _ | with_reducible refine rNeg ?_ _ | with_reducible refine rInv ?_ _ | with_reducible refine refNeg2 _ ?_ _ | with_reducible refine refAdd2 _ ?_ _ ?_ _ | with_reducible refine refConj2 _ ?_ _ | with_reducible refine refMul2 _ ?_ _ ?_ _ | with_reducible refine refScale2 _ ?_ _ ?_ _) <;> (with_reducible first | exact Nm.fe _ | exact Nm.F2 _ | assumption | exact nm_one | exact nm_Z6 | (refine Nm.seg (m := 12) ?_ (by decide); assumption) | exact Nm.seg (m := 12) (Nm.F2 _) (by decide) | exact Nm.app2 (.fe _) (.fe _) | fail))⟩) ?_
    | refine wpTake_cons (Steady.of_yields (Or.inl ⟨by rfl, fun w => (by first | (go_simp; done) | (go_simp; with_reducible rfl))⟩)) ?_); simp only [List.getElem_toArray, List.getElem_cons_zero, List.getElem_cons_succ, Act.put, List.setIfInBounds_toArray, List.set_cons_zero, List.set_cons_succ])
  refine wpTake_nil ?_
  refine tail_store (i := 5) (by rfl) (by kernel_rfl) (by kernel_rfl) (by rfl) 26 (.tmp 2) (.tmp 14) (by rfl) (by rfl) (S + 1) _ (by rfl) (by rfl) 26 _ qo4 (by rw [vals_size, (Nm.F2 _).len]; kernel_rfl) (by rw [vals_size, vals_size, (Nm.F2 _).len]; rfl) vals_one ?_
  intro w5 qo5 hbt
  have qa5 := hbt.has qa4 (by omega)
  have qc5 := hbt.has qc4 (by omega)
  have qm5 := hbt.has qm4 (by omega)
  have hb5 := hb4.trans (hbt.below (by omega) (HSS.out _ hb4))
  clear hbt hb4 qa4 qo4 qc4 qm4
  go_wp2
  refine bodyPost_ret (v := .agg (vals .u64 _)) (results_cell_row rfl _ _ (S + 1) _ _ _ _ rfl qo5.eq Tryd.underlying26 rfl (by rw [vals_size, (Nm.F2 _).len]; kernel_rfl)) rfl ⟨ret_eq (congrArg (fun z => Value.agg (vals .u64 z)) (F2_eq (inv_eq a))), hb5⟩

set_option maxRecDepth 100000 in
set_option maxHeartbeats 4000000 in
theorem refXi2 (a : List Int) (ha : Nm 12 a) (w : World) : Calls Tryd.prog 40 #[.agg (vals .u64 a)] w fun e w' => e = .returned (.agg (vals .u64 (F2 (gm (v2 a) (1, 1))))) ∧ Below w.heap.size w w' := by
  obtain ⟨S, hS⟩ : ∃ S, w.heap.size = S := ⟨_, rfl⟩
  have Lo : Keep (Z12.length = 12) := ⟨rfl⟩
  have qa0 : Has ((w.alloc (.cells (vals .u64 a) 26)).alloc (.cells (vals .u64 Z12) 26)) (S) 26 (vals .u64 a) := ((Has.new' _ hS.symm _ _).alloc _)
  have qo0 : Has ((w.alloc (.cells (vals .u64 a) 26)).alloc (.cells (vals .u64 Z12) 26)) (S + 1) 26 (vals .u64 Z12) := (Has.new' _ (by simp only [World.size_alloc, hS]) _ _)
  have hb0 : Below S w ((w.alloc (.cells (vals .u64 a) 26)).alloc (.cells (vals .u64 Z12) 26)) := by rw [← hS]; exact (((Below.refl _ _).alloc (Nat.le_refl _) _).alloc (by simp <;> omega) _)
  have hsz0 : ((w.alloc (.cells (vals .u64 a) 26)).alloc (.cells (vals .u64 Z12) 26)).heap.size = S + 2 := by simp only [World.size_alloc, hS]
  have HSS : Keep (∀ x : World, Below S w x → S ≤ x.heap.size) := ⟨fun x hb => Nat.le_trans (by omega) hb.size⟩
  rw [hS]
  go_enter Tryd.func40, Tryd.ntmps40
  go_wp2_with (first
    | (refine store_abs2 (by rfl) 26 (.tmp 2) (.tmp 7) (by rfl) (by rfl) (S + 1) (vals .u64 (F2 (gm (v2 a) (v2 ([1, 0, 0, 0, 0, 0] ++ [1, 0, 0, 0, 0, 0]))))) (by rfl) (by rfl) 26 _ qo1 (by rw [vals_size, (Nm.F2 _).len]; kernel_rfl) (by rw [vals_size, vals_size, (Nm.F2 _).len, Lo.out]) vals_one ?_
       intro w2 qo2 hkeep hbg
       have qa2 := hkeep _ _ _ qa1 (by omega)
       have hb2 := hb1.trans (hbg.mono (by omega))
       clear hkeep hbg hb1 qa1 qo1)
    | (have hq0 := hb0
       clear hq0
       go_at_call 38
       refine (refMul2 a ha ([1, 0, 0, 0, 0, 0] ++ [1, 0, 0, 0, 0, 0]) (.app nm_one nm_one) _).mono ?_
       rintro e w1 ⟨rfl, hq⟩
       have qa1 := qa0.keep hq
       have qo1 := qo0.keep hq
       have hb1 := hb0.trans (hq.mono (HSS.out _ hb0))
       clear hq hb0 qa0 qo0)
    | (refine wpList_buildTo (by rfl) 26 #[(0, .tmp 4), (1, .tmp 5)] (by rfl) (some 6) (by rfl) _ (by rw [Array.toList_map]; exact build2 nm_one nm_one) ?_)
    | (refine wpList_buildTo (by rfl) 24 #[(0, .const (.int .u64 1))] (by rfl) (some 5) (by rfl) (vals .u64 [1, 0, 0, 0, 0, 0]) (by kernel_rfl) ?_)
    | (refine wpList_buildTo (by rfl) 24 #[(0, .const (.int .u64 1))] (by rfl) (some 4) (by rfl) (vals .u64 [1, 0, 0, 0, 0, 0]) (by kernel_rfl) ?_)
    | (refine wpList_load_row rfl 26 (.tmp 1) rfl (S) rfl _ _ _ _ qa0.eq Tryd.underlying26 rfl (by rw [vals_size, ha.len]; kernel_rfl) ?_))
  refine bodyPost_ret (v := .agg (vals .u64 _)) (results_cell_row rfl _ _ (S + 1) _ _ _ _ rfl qo2.eq Tryd.underlying26 rfl (by rw [vals_size, (Nm.F2 _).len]; kernel_rfl)) rfl ⟨ret_eq (congrArg (fun z => Value.agg (vals .u64 z)) (show _ = F2 (gm (v2 a) (1, 1)) by rw [show v2 ([1, 0, 0, 0, 0, 0] ++ [1, 0, 0, 0, 0, 0]) = (1, 1) by decide +kernel])), hb2⟩

end Go.Proofs.YtpkbbdhpdplkeaaDoor.Fp2
