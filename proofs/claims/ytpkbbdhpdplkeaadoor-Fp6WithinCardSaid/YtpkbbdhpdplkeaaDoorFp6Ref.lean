/-
  Own text. The contracts of layer 9's reference: all but Mul.
-/
import Derived.Test.YtpkbbdhpdplkeaaDoorFp6Spec
import Derived.Test.YtpkbbdhpdplkeaaDoorFp2Ref
namespace Go.Proofs.YtpkbbdhpdplkeaaDoor.Fp6
set_option linter.unusedVariables false
set_option linter.unusedSimpArgs false
open Go Go.RowKit Go.Proofs.YtpkbbdhpdplkeaaDoor.Reg Go.Proofs.YtpkbbdhpdplkeaaDoor.Base Go.Proofs.YtpkbbdhpdplkeaaDoor.Limb Go.Proofs.YtpkbbdhpdplkeaaDoor.Fp Go.Proofs.YtpkbbdhpdplkeaaDoor.Fp2

def Z36 : List Int := List.replicate 36 0
theorem Nm.app3 {l k j : List Int} (h : Nm 12 l) (h' : Nm 12 k) (h'' : Nm 12 j) : Nm 36 (l ++ k ++ j) := (h.app h').app h''
theorem built6 : Built Tryd.prog 28 [(0, 12), (12, 12), (12 + 12, 12)] (List.replicate (12 + 12 + 12) 0) := fun _ => by kernel_rfl
theorem build3 {x y z : List Int} (h : Nm 12 x) (h' : Nm 12 y) (h'' : Nm 12 z) : Tryd.prog.built 28 [(0, .agg (vals .u64 x)), (1, .agg (vals .u64 y)), (2, .agg (vals .u64 z))] = some (vals .u64 (x ++ y ++ z)) := built_three built6 h.len h'.len h''.len
theorem nm_Z36 : Nm 36 Z36 := ⟨rfl, words_zeros 36⟩
theorem nm_V36 : Nm 36 [0, 0, 0, 0, 0, 0, 0, 0, 0, 0, 0, 0, 1, 0, 0, 0, 0, 0, 0, 0, 0, 0, 0, 0, 0, 0, 0, 0, 0, 0, 0, 0, 0, 0, 0, 0] := ⟨rfl, words_of _ (by decide)⟩
theorem v6_V36 : v6 [0, 0, 0, 0, 0, 0, 0, 0, 0, 0, 0, 0, 1, 0, 0, 0, 0, 0, 0, 0, 0, 0, 0, 0, 0, 0, 0, 0, 0, 0, 0, 0, 0, 0, 0, 0] = ((0, 0), (1, 0), (0, 0)) := by decide +kernel

set_option maxRecDepth 100000 in
set_option maxHeartbeats 4000000 in
theorem refRed6 (a : List Int) (ha : Nm 36 a) (w : World) : Calls Tryd.prog 11 #[.agg (vals .u64 a)] w fun e w' => e = .returned (.agg (vals .u64 (F6 (v6 a)))) ∧ Below w.heap.size w w' := by
  obtain ⟨S, hS⟩ : ∃ S, w.heap.size = S := ⟨_, rfl⟩
  have Lo : Keep (Fp6.Z36.length = 36) := ⟨rfl⟩
  have qa0 : Has ((w.alloc (.cells (vals .u64 a) 28)).alloc (.cells (vals .u64 Fp6.Z36) 28)) (S) 28 (vals .u64 a) := ((Has.new' _ hS.symm _ _).alloc _)
  have qo0 : Has ((w.alloc (.cells (vals .u64 a) 28)).alloc (.cells (vals .u64 Fp6.Z36) 28)) (S + 1) 28 (vals .u64 Fp6.Z36) := (Has.new' _ (by simp only [World.size_alloc, hS]) _ _)
  have hb0 : Below S w ((w.alloc (.cells (vals .u64 a) 28)).alloc (.cells (vals .u64 Fp6.Z36) 28)) := by rw [← hS]; exact (((Below.refl _ _).alloc (Nat.le_refl _) _).alloc (by simp <;> omega) _)
  have hsz0 : ((w.alloc (.cells (vals .u64 a) 28)).alloc (.cells (vals .u64 Fp6.Z36) 28)).heap.size = S + 2 := by simp only [World.size_alloc, hS]
  have HSS : Keep (∀ x : World, Below S w x → S ≤ x.heap.size) := ⟨fun x hb => Nat.le_trans (by omega) hb.size⟩
  rw [hS]
  go_enter Tryd.func11, Tryd.ntmps11
  go_wp2
  change Code.wp _ _ _ _ (((w.alloc (.cells (vals .u64 a) 28)).alloc (.cells (vals .u64 Fp6.Z36) 28)))
  obtain ⟨w0, hw0⟩ : ∃ x, ((w.alloc (.cells (vals .u64 a) 28)).alloc (.cells (vals .u64 Fp6.Z36) 28)) = x := ⟨_, rfl⟩
  rw [hw0] at hb0 hsz0 qa0 qo0 ⊢
  clear hw0
  refine wp_reads 10 1 (S + 1) (by kernel_rfl) (by kernel_rfl) (by rfl) (by kernel_rfl) (fun _ _ d _ _ h => by cases d <;> exact h) ?_
  simp only [List.take_succ_cons, List.take_zero]
  repeat ((first
    | refine take_load (by rfl) 26 (by rfl) (g := S) (n := 12) (by rfl) (t := 28) (xs := a) (fun w hw => hw.has qa0 (by omega)) Tryd.underlying26 rfl (by kernel_rfl) (by rw [ha.len]; decide) ?_
    | refine take_loadw (by rfl) 28 (by rfl) (g := S) (n := 36) (by rfl) (t := 28) (xs := a) (fun w hw => hw.has qa0 (by omega)) Tryd.underlying28 rfl (by kernel_rfl) ha.len ?_
    | refine take_build (by rfl) (by rfl) (by refine build3 ?_ ?_ ?_ <;> (with_reducible first | exact Nm.F2 _ | exact Nm.F6 _ | assumption | (refine Nm.seg (m := 36) ?_ (by decide); assumption) | exact Nm.seg (m := 36) (Nm.F6 _) (by decide) | exact Nm.app3 (.F2 _) (.F2 _) (.F2 _) | fail)) ?_
    | refine wpTake_cons (.inl ⟨by rfl, fun w hw => (by unfold Oper.quietAt; go_simp; (first | with_reducible refine refRed2 _ ?_ _ | with_reducible refine refAdd2 _ ?_ _ ?_ _ | with_reducible refine refSub2 _ ?_ _ ?_ _ | with_reducible refine refMul2 _ ?_ _ ?_ _ | with_reducible refine refNeg2 _ ?_ _ | with_reducible refine refXi2 _ ?_ _) <;> (with_reducible first | exact Nm.F2 _ | exact Nm.F6 _ | assumption | (refine Nm.seg (m := 36) ?_ (by decide); assumption) | exact Nm.seg (m := 36) (Nm.F6 _) (by decide) | exact Nm.app3 (.F2 _) (.F2 _) (.F2 _) | fail))⟩) ?_
    | refine wpTake_cons (Steady.of_yields (Or.inl ⟨by rfl, fun w => (by first | (go_simp; done) | (go_simp; with_reducible rfl))⟩)) ?_); simp only [List.getElem_toArray, List.getElem_cons_zero, List.getElem_cons_succ, Act.put, List.setIfInBounds_toArray, List.set_cons_zero, List.set_cons_succ])
  refine wpTake_nil ?_
  refine tail_store (i := 10) (by rfl) (by kernel_rfl) (by kernel_rfl) (by rfl) 28 (.tmp 2) (.tmp 12) (by rfl) (by rfl) (S + 1) _ (by rfl) (by rfl) 28 _ qo0 (by rw [vals_size, (Nm.app3 (.F2 _) (.F2 _) (.F2 _)).len]; kernel_rfl) (by rw [vals_size, vals_size, (Nm.app3 (.F2 _) (.F2 _) (.F2 _)).len]; rfl) vals_one ?_
  intro w1 qo1 hbt
  have qa1 := hbt.has qa0 (by omega)
  have hb1 := hb0.trans (hbt.below (by omega) (HSS.out _ hb0))
  clear hbt hb0 qa0 qo0
  go_wp2
  refine bodyPost_ret (v := .agg (vals .u64 _)) (results_cell_row rfl _ _ (S + 1) _ _ _ _ rfl qo1.eq Tryd.underlying28 rfl (by rw [vals_size, (Nm.app3 (.F2 _) (.F2 _) (.F2 _)).len]; kernel_rfl)) rfl ⟨rfl, hb1⟩

set_option maxRecDepth 100000 in
set_option maxHeartbeats 4000000 in
theorem refAdd6 (a : List Int) (ha : Nm 36 a) (b : List Int) (hb : Nm 36 b) (w : World) : Calls Tryd.prog 13 #[.agg (vals .u64 a), .agg (vals .u64 b)] w fun e w' => e = .returned (.agg (vals .u64 (F6 (Fp6.ha (v6 a) (v6 b))))) ∧ Below w.heap.size w w' := by
  obtain ⟨S, hS⟩ : ∃ S, w.heap.size = S := ⟨_, rfl⟩
  have Lo : Keep (Fp6.Z36.length = 36) := ⟨rfl⟩
  have qa0 : Has (((w.alloc (.cells (vals .u64 a) 28)).alloc (.cells (vals .u64 b) 28)).alloc (.cells (vals .u64 Fp6.Z36) 28)) (S) 28 (vals .u64 a) := (((Has.new' _ hS.symm _ _).alloc _).alloc _)
  have qb0 : Has (((w.alloc (.cells (vals .u64 a) 28)).alloc (.cells (vals .u64 b) 28)).alloc (.cells (vals .u64 Fp6.Z36) 28)) (S + 1) 28 (vals .u64 b) := ((Has.new' _ (by simp only [World.size_alloc, hS]) _ _).alloc _)
  have qo0 : Has (((w.alloc (.cells (vals .u64 a) 28)).alloc (.cells (vals .u64 b) 28)).alloc (.cells (vals .u64 Fp6.Z36) 28)) (S + 2) 28 (vals .u64 Fp6.Z36) := (Has.new' _ (by simp only [World.size_alloc, hS]) _ _)
  have hb0 : Below S w (((w.alloc (.cells (vals .u64 a) 28)).alloc (.cells (vals .u64 b) 28)).alloc (.cells (vals .u64 Fp6.Z36) 28)) := by rw [← hS]; exact ((((Below.refl _ _).alloc (Nat.le_refl _) _).alloc (by simp <;> omega) _).alloc (by simp <;> omega) _)
  have hsz0 : (((w.alloc (.cells (vals .u64 a) 28)).alloc (.cells (vals .u64 b) 28)).alloc (.cells (vals .u64 Fp6.Z36) 28)).heap.size = S + 3 := by simp only [World.size_alloc, hS]
  have HSS : Keep (∀ x : World, Below S w x → S ≤ x.heap.size) := ⟨fun x hb => Nat.le_trans (by omega) hb.size⟩
  rw [hS]
  go_enter Tryd.func13, Tryd.ntmps13
  go_wp2
  change Code.wp _ _ _ _ ((((w.alloc (.cells (vals .u64 a) 28)).alloc (.cells (vals .u64 b) 28)).alloc (.cells (vals .u64 Fp6.Z36) 28)))
  obtain ⟨w0, hw0⟩ : ∃ x, (((w.alloc (.cells (vals .u64 a) 28)).alloc (.cells (vals .u64 b) 28)).alloc (.cells (vals .u64 Fp6.Z36) 28)) = x := ⟨_, rfl⟩
  rw [hw0] at hb0 hsz0 qa0 qb0 qo0 ⊢
  clear hw0
  refine wp_reads 16 1 (S + 2) (by kernel_rfl) (by kernel_rfl) (by rfl) (by kernel_rfl) (fun _ _ d _ _ h => by cases d <;> exact h) ?_
  simp only [List.take_succ_cons, List.take_zero]
  repeat ((first
    | refine take_load (by rfl) 26 (by rfl) (g := S) (n := 12) (by rfl) (t := 28) (xs := a) (fun w hw => hw.has qa0 (by omega)) Tryd.underlying26 rfl (by kernel_rfl) (by rw [ha.len]; decide) ?_
    | refine take_loadw (by rfl) 28 (by rfl) (g := S) (n := 36) (by rfl) (t := 28) (xs := a) (fun w hw => hw.has qa0 (by omega)) Tryd.underlying28 rfl (by kernel_rfl) ha.len ?_
    | refine take_load (by rfl) 26 (by rfl) (g := S + 1) (n := 12) (by rfl) (t := 28) (xs := b) (fun w hw => hw.has qb0 (by omega)) Tryd.underlying26 rfl (by kernel_rfl) (by rw [hb.len]; decide) ?_
    | refine take_loadw (by rfl) 28 (by rfl) (g := S + 1) (n := 36) (by rfl) (t := 28) (xs := b) (fun w hw => hw.has qb0 (by omega)) Tryd.underlying28 rfl (by kernel_rfl) hb.len ?_
    | refine take_build (by rfl) (by rfl) (by refine build3 ?_ ?_ ?_ <;> (with_reducible first | exact Nm.F2 _ | exact Nm.F6 _ | assumption | (refine Nm.seg (m := 36) ?_ (by decide); assumption) | exact Nm.seg (m := 36) (Nm.F6 _) (by decide) | exact Nm.app3 (.F2 _) (.F2 _) (.F2 _) | fail)) ?_
    | refine wpTake_cons (.inl ⟨by rfl, fun w hw => (by unfold Oper.quietAt; go_simp; (first | with_reducible refine refRed2 _ ?_ _ | with_reducible refine refAdd2 _ ?_ _ ?_ _ | with_reducible refine refSub2 _ ?_ _ ?_ _ | with_reducible refine refMul2 _ ?_ _ ?_ _ | with_reducible refine refNeg2 _ ?_ _ | with_reducible refine refXi2 _ ?_ _) <;> (with_reducible first | exact Nm.F2 _ | exact Nm.F6 _ | assumption | (refine Nm.seg (m := 36) ?_ (by decide); assumption) | exact Nm.seg (m := 36) (Nm.F6 _) (by decide) | exact Nm.app3 (.F2 _) (.F2 _) (.F2 _) | fail))⟩) ?_
    | refine wpTake_cons (Steady.of_yields (Or.inl ⟨by rfl, fun w => (by first | (go_simp; done) | (go_simp; with_reducible rfl))⟩)) ?_); simp only [List.getElem_toArray, List.getElem_cons_zero, List.getElem_cons_succ, Act.put, List.setIfInBounds_toArray, List.set_cons_zero, List.set_cons_succ])
  refine wpTake_nil ?_
  refine tail_store (i := 16) (by rfl) (by kernel_rfl) (by kernel_rfl) (by rfl) 28 (.tmp 4) (.tmp 20) (by rfl) (by rfl) (S + 2) _ (by rfl) (by rfl) 28 _ qo0 (by rw [vals_size, (Nm.app3 (.F2 _) (.F2 _) (.F2 _)).len]; kernel_rfl) (by rw [vals_size, vals_size, (Nm.app3 (.F2 _) (.F2 _) (.F2 _)).len]; rfl) vals_one ?_
  intro w1 qo1 hbt
  have qa1 := hbt.has qa0 (by omega)
  have qb1 := hbt.has qb0 (by omega)
  have hb1 := hb0.trans (hbt.below (by omega) (HSS.out _ hb0))
  clear hbt hb0 qa0 qb0 qo0
  go_wp2
  refine bodyPost_ret (v := .agg (vals .u64 _)) (results_cell_row rfl _ _ (S + 2) _ _ _ _ rfl qo1.eq Tryd.underlying28 rfl (by rw [vals_size, (Nm.app3 (.F2 _) (.F2 _) (.F2 _)).len]; kernel_rfl)) rfl ⟨rfl, hb1⟩

set_option maxRecDepth 100000 in
set_option maxHeartbeats 4000000 in
theorem refNeg6 (a : List Int) (ha : Nm 36 a) (w : World) : Calls Tryd.prog 17 #[.agg (vals .u64 a)] w fun e w' => e = .returned (.agg (vals .u64 (F6 (hn (v6 a))))) ∧ Below w.heap.size w w' := by
  obtain ⟨S, hS⟩ : ∃ S, w.heap.size = S := ⟨_, rfl⟩
  have Lo : Keep (Fp6.Z36.length = 36) := ⟨rfl⟩
  have qa0 : Has ((w.alloc (.cells (vals .u64 a) 28)).alloc (.cells (vals .u64 Fp6.Z36) 28)) (S) 28 (vals .u64 a) := ((Has.new' _ hS.symm _ _).alloc _)
  have qo0 : Has ((w.alloc (.cells (vals .u64 a) 28)).alloc (.cells (vals .u64 Fp6.Z36) 28)) (S + 1) 28 (vals .u64 Fp6.Z36) := (Has.new' _ (by simp only [World.size_alloc, hS]) _ _)
  have hb0 : Below S w ((w.alloc (.cells (vals .u64 a) 28)).alloc (.cells (vals .u64 Fp6.Z36) 28)) := by rw [← hS]; exact (((Below.refl _ _).alloc (Nat.le_refl _) _).alloc (by simp <;> omega) _)
  have hsz0 : ((w.alloc (.cells (vals .u64 a) 28)).alloc (.cells (vals .u64 Fp6.Z36) 28)).heap.size = S + 2 := by simp only [World.size_alloc, hS]
  have HSS : Keep (∀ x : World, Below S w x → S ≤ x.heap.size) := ⟨fun x hb => Nat.le_trans (by omega) hb.size⟩
  rw [hS]
  go_enter Tryd.func17, Tryd.ntmps17
  go_wp2
  change Code.wp _ _ _ _ (((w.alloc (.cells (vals .u64 a) 28)).alloc (.cells (vals .u64 Fp6.Z36) 28)))
  obtain ⟨w0, hw0⟩ : ∃ x, ((w.alloc (.cells (vals .u64 a) 28)).alloc (.cells (vals .u64 Fp6.Z36) 28)) = x := ⟨_, rfl⟩
  rw [hw0] at hb0 hsz0 qa0 qo0 ⊢
  clear hw0
  refine wp_reads 10 1 (S + 1) (by kernel_rfl) (by kernel_rfl) (by rfl) (by kernel_rfl) (fun _ _ d _ _ h => by cases d <;> exact h) ?_
  simp only [List.take_succ_cons, List.take_zero]
  repeat ((first
    | refine take_load (by rfl) 26 (by rfl) (g := S) (n := 12) (by rfl) (t := 28) (xs := a) (fun w hw => hw.has qa0 (by omega)) Tryd.underlying26 rfl (by kernel_rfl) (by rw [ha.len]; decide) ?_
    | refine take_loadw (by rfl) 28 (by rfl) (g := S) (n := 36) (by rfl) (t := 28) (xs := a) (fun w hw => hw.has qa0 (by omega)) Tryd.underlying28 rfl (by kernel_rfl) ha.len ?_
    | refine take_build (by rfl) (by rfl) (by refine build3 ?_ ?_ ?_ <;> (with_reducible first | exact Nm.F2 _ | exact Nm.F6 _ | assumption | (refine Nm.seg (m := 36) ?_ (by decide); assumption) | exact Nm.seg (m := 36) (Nm.F6 _) (by decide) | exact Nm.app3 (.F2 _) (.F2 _) (.F2 _) | fail)) ?_
    | refine wpTake_cons (.inl ⟨by rfl, fun w hw => (by unfold Oper.quietAt; go_simp; (first | with_reducible refine refRed2 _ ?_ _ | with_reducible refine refAdd2 _ ?_ _ ?_ _ | with_reducible refine refSub2 _ ?_ _ ?_ _ | with_reducible refine refMul2 _ ?_ _ ?_ _ | with_reducible refine refNeg2 _ ?_ _ | with_reducible refine refXi2 _ ?_ _) <;> (with_reducible first | exact Nm.F2 _ | exact Nm.F6 _ | assumption | (refine Nm.seg (m := 36) ?_ (by decide); assumption) | exact Nm.seg (m := 36) (Nm.F6 _) (by decide) | exact Nm.app3 (.F2 _) (.F2 _) (.F2 _) | fail))⟩) ?_
    | refine wpTake_cons (Steady.of_yields (Or.inl ⟨by rfl, fun w => (by first | (go_simp; done) | (go_simp; with_reducible rfl))⟩)) ?_); simp only [List.getElem_toArray, List.getElem_cons_zero, List.getElem_cons_succ, Act.put, List.setIfInBounds_toArray, List.set_cons_zero, List.set_cons_succ])
  refine wpTake_nil ?_
  refine tail_store (i := 10) (by rfl) (by kernel_rfl) (by kernel_rfl) (by rfl) 28 (.tmp 2) (.tmp 12) (by rfl) (by rfl) (S + 1) _ (by rfl) (by rfl) 28 _ qo0 (by rw [vals_size, (Nm.app3 (.F2 _) (.F2 _) (.F2 _)).len]; kernel_rfl) (by rw [vals_size, vals_size, (Nm.app3 (.F2 _) (.F2 _) (.F2 _)).len]; rfl) vals_one ?_
  intro w1 qo1 hbt
  have qa1 := hbt.has qa0 (by omega)
  have hb1 := hb0.trans (hbt.below (by omega) (HSS.out _ hb0))
  clear hbt hb0 qa0 qo0
  go_wp2
  refine bodyPost_ret (v := .agg (vals .u64 _)) (results_cell_row rfl _ _ (S + 1) _ _ _ _ rfl qo1.eq Tryd.underlying28 rfl (by rw [vals_size, (Nm.app3 (.F2 _) (.F2 _) (.F2 _)).len]; kernel_rfl)) rfl ⟨rfl, hb1⟩

set_option maxRecDepth 100000 in
set_option maxHeartbeats 4000000 in
theorem refScale6 (a : List Int) (ha : Nm 36 a) (k : List Int) (hk : Nm 12 k) (w : World) : Calls Tryd.prog 19 #[.agg (vals .u64 a), .agg (vals .u64 k)] w fun e w' => e = .returned (.agg (vals .u64 (F6 (Fp6.hk (v6 a) (v2 k))))) ∧ Below w.heap.size w w' := by
  obtain ⟨S, hS⟩ : ∃ S, w.heap.size = S := ⟨_, rfl⟩
  have Lo : Keep (Fp6.Z36.length = 36) := ⟨rfl⟩
  have qa0 : Has (((w.alloc (.cells (vals .u64 a) 28)).alloc (.cells (vals .u64 k) 26)).alloc (.cells (vals .u64 Fp6.Z36) 28)) (S) 28 (vals .u64 a) := (((Has.new' _ hS.symm _ _).alloc _).alloc _)
  have qk0 : Has (((w.alloc (.cells (vals .u64 a) 28)).alloc (.cells (vals .u64 k) 26)).alloc (.cells (vals .u64 Fp6.Z36) 28)) (S + 1) 26 (vals .u64 k) := ((Has.new' _ (by simp only [World.size_alloc, hS]) _ _).alloc _)
  have qo0 : Has (((w.alloc (.cells (vals .u64 a) 28)).alloc (.cells (vals .u64 k) 26)).alloc (.cells (vals .u64 Fp6.Z36) 28)) (S + 2) 28 (vals .u64 Fp6.Z36) := (Has.new' _ (by simp only [World.size_alloc, hS]) _ _)
  have hb0 : Below S w (((w.alloc (.cells (vals .u64 a) 28)).alloc (.cells (vals .u64 k) 26)).alloc (.cells (vals .u64 Fp6.Z36) 28)) := by rw [← hS]; exact ((((Below.refl _ _).alloc (Nat.le_refl _) _).alloc (by simp <;> omega) _).alloc (by simp <;> omega) _)
  have hsz0 : (((w.alloc (.cells (vals .u64 a) 28)).alloc (.cells (vals .u64 k) 26)).alloc (.cells (vals .u64 Fp6.Z36) 28)).heap.size = S + 3 := by simp only [World.size_alloc, hS]
  have HSS : Keep (∀ x : World, Below S w x → S ≤ x.heap.size) := ⟨fun x hb => Nat.le_trans (by omega) hb.size⟩
  rw [hS]
  go_enter Tryd.func19, Tryd.ntmps19
  go_wp2
  change Code.wp _ _ _ _ ((((w.alloc (.cells (vals .u64 a) 28)).alloc (.cells (vals .u64 k) 26)).alloc (.cells (vals .u64 Fp6.Z36) 28)))
  obtain ⟨w0, hw0⟩ : ∃ x, (((w.alloc (.cells (vals .u64 a) 28)).alloc (.cells (vals .u64 k) 26)).alloc (.cells (vals .u64 Fp6.Z36) 28)) = x := ⟨_, rfl⟩
  rw [hw0] at hb0 hsz0 qa0 qk0 qo0 ⊢
  clear hw0
  refine wp_reads 13 1 (S + 2) (by kernel_rfl) (by kernel_rfl) (by rfl) (by kernel_rfl) (fun _ _ d _ _ h => by cases d <;> exact h) ?_
  simp only [List.take_succ_cons, List.take_zero]
  repeat ((first
    | refine take_load (by rfl) 26 (by rfl) (g := S) (n := 12) (by rfl) (t := 28) (xs := a) (fun w hw => hw.has qa0 (by omega)) Tryd.underlying26 rfl (by kernel_rfl) (by rw [ha.len]; decide) ?_
    | refine take_loadw (by rfl) 28 (by rfl) (g := S) (n := 36) (by rfl) (t := 28) (xs := a) (fun w hw => hw.has qa0 (by omega)) Tryd.underlying28 rfl (by kernel_rfl) ha.len ?_
    | refine take_loadw (by rfl) 26 (by rfl) (g := S + 1) (n := 12) (by rfl) (t := 26) (xs := k) (fun w hw => hw.has qk0 (by omega)) Tryd.underlying26 rfl (by kernel_rfl) hk.len ?_
    | refine take_build (by rfl) (by rfl) (by refine build3 ?_ ?_ ?_ <;> (with_reducible first | exact Nm.F2 _ | exact Nm.F6 _ | assumption | (refine Nm.seg (m := 36) ?_ (by decide); assumption) | exact Nm.seg (m := 36) (Nm.F6 _) (by decide) | exact Nm.app3 (.F2 _) (.F2 _) (.F2 _) | fail)) ?_
    | refine wpTake_cons (.inl ⟨by rfl, fun w hw => (by unfold Oper.quietAt; go_simp; (first | with_reducible refine refRed2 _ ?_ _ | with_reducible refine refAdd2 _ ?_ _ ?_ _ | with_reducible refine refSub2 _ ?_ _ ?_ _ | with_reducible refine refMul2 _ ?_ _ ?_ _ | with_reducible refine refNeg2 _ ?_ _ | with_reducible refine refXi2 _ ?_ _) <;> (with_reducible first | exact Nm.F2 _ | exact Nm.F6 _ | assumption | (refine Nm.seg (m := 36) ?_ (by decide); assumption) | exact Nm.seg (m := 36) (Nm.F6 _) (by decide) | exact Nm.app3 (.F2 _) (.F2 _) (.F2 _) | fail))⟩) ?_
    | refine wpTake_cons (Steady.of_yields (Or.inl ⟨by rfl, fun w => (by first | (go_simp; done) | (go_simp; with_reducible rfl))⟩)) ?_); simp only [List.getElem_toArray, List.getElem_cons_zero, List.getElem_cons_succ, Act.put, List.setIfInBounds_toArray, List.set_cons_zero, List.set_cons_succ])
  refine wpTake_nil ?_
  refine tail_store (i := 13) (by rfl) (by kernel_rfl) (by kernel_rfl) (by rfl) 28 (.tmp 4) (.tmp 17) (by rfl) (by rfl) (S + 2) _ (by rfl) (by rfl) 28 _ qo0 (by rw [vals_size, (Nm.app3 (.F2 _) (.F2 _) (.F2 _)).len]; kernel_rfl) (by rw [vals_size, vals_size, (Nm.app3 (.F2 _) (.F2 _) (.F2 _)).len]; rfl) vals_one ?_
  intro w1 qo1 hbt
  have qa1 := hbt.has qa0 (by omega)
  have qk1 := hbt.has qk0 (by omega)
  have hb1 := hb0.trans (hbt.below (by omega) (HSS.out _ hb0))
  clear hbt hb0 qa0 qk0 qo0
  go_wp2
  refine bodyPost_ret (v := .agg (vals .u64 _)) (results_cell_row rfl _ _ (S + 2) _ _ _ _ rfl qo1.eq Tryd.underlying28 rfl (by rw [vals_size, (Nm.app3 (.F2 _) (.F2 _) (.F2 _)).len]; kernel_rfl)) rfl ⟨rfl, hb1⟩

set_option maxRecDepth 100000 in
set_option maxHeartbeats 4000000 in
theorem refSub6 (a : List Int) (ha : Nm 36 a) (b : List Int) (hb : Nm 36 b) (w : World) : Calls Tryd.prog 15 #[.agg (vals .u64 a), .agg (vals .u64 b)] w fun e w' => e = .returned (.agg (vals .u64 (F6 (hs (v6 a) (v6 b))))) ∧ Below w.heap.size w w' := by
  obtain ⟨S, hS⟩ : ∃ S, w.heap.size = S := ⟨_, rfl⟩
  have Lo : Keep (Fp6.Z36.length = 36) := ⟨rfl⟩
  have qa0 : Has (((w.alloc (.cells (vals .u64 a) 28)).alloc (.cells (vals .u64 b) 28)).alloc (.cells (vals .u64 Fp6.Z36) 28)) (S) 28 (vals .u64 a) := (((Has.new' _ hS.symm _ _).alloc _).alloc _)
  have qb0 : Has (((w.alloc (.cells (vals .u64 a) 28)).alloc (.cells (vals .u64 b) 28)).alloc (.cells (vals .u64 Fp6.Z36) 28)) (S + 1) 28 (vals .u64 b) := ((Has.new' _ (by simp only [World.size_alloc, hS]) _ _).alloc _)
  have qo0 : Has (((w.alloc (.cells (vals .u64 a) 28)).alloc (.cells (vals .u64 b) 28)).alloc (.cells (vals .u64 Fp6.Z36) 28)) (S + 2) 28 (vals .u64 Fp6.Z36) := (Has.new' _ (by simp only [World.size_alloc, hS]) _ _)
  have hb0 : Below S w (((w.alloc (.cells (vals .u64 a) 28)).alloc (.cells (vals .u64 b) 28)).alloc (.cells (vals .u64 Fp6.Z36) 28)) := by rw [← hS]; exact ((((Below.refl _ _).alloc (Nat.le_refl _) _).alloc (by simp <;> omega) _).alloc (by simp <;> omega) _)
  have hsz0 : (((w.alloc (.cells (vals .u64 a) 28)).alloc (.cells (vals .u64 b) 28)).alloc (.cells (vals .u64 Fp6.Z36) 28)).heap.size = S + 3 := by simp only [World.size_alloc, hS]
  have HSS : Keep (∀ x : World, Below S w x → S ≤ x.heap.size) := ⟨fun x hb => Nat.le_trans (by omega) hb.size⟩
  rw [hS]
  go_enter Tryd.func15, Tryd.ntmps15
  go_wp2
  change Code.wp _ _ _ _ ((((w.alloc (.cells (vals .u64 a) 28)).alloc (.cells (vals .u64 b) 28)).alloc (.cells (vals .u64 Fp6.Z36) 28)))
  obtain ⟨w0, hw0⟩ : ∃ x, (((w.alloc (.cells (vals .u64 a) 28)).alloc (.cells (vals .u64 b) 28)).alloc (.cells (vals .u64 Fp6.Z36) 28)) = x := ⟨_, rfl⟩
  rw [hw0] at hb0 hsz0 qa0 qb0 qo0 ⊢
  clear hw0
  refine wp_reads 4 1 (S + 2) (by kernel_rfl) (by kernel_rfl) (by rfl) (by kernel_rfl) (fun _ _ d _ _ h => by cases d <;> exact h) ?_
  simp only [List.take_succ_cons, List.take_zero]
  repeat ((first
    | refine take_load (by rfl) 26 (by rfl) (g := S) (n := 12) (by rfl) (t := 28) (xs := a) (fun w hw => hw.has qa0 (by omega)) Tryd.underlying26 rfl (by kernel_rfl) (by rw [ha.len]; decide) ?_
    | refine take_loadw (by rfl) 28 (by rfl) (g := S) (n := 36) (by rfl) (t := 28) (xs := a) (fun w hw => hw.has qa0 (by omega)) Tryd.underlying28 rfl (by kernel_rfl) ha.len ?_
    | refine take_load (by rfl) 26 (by rfl) (g := S + 1) (n := 12) (by rfl) (t := 28) (xs := b) (fun w hw => hw.has qb0 (by omega)) Tryd.underlying26 rfl (by kernel_rfl) (by rw [hb.len]; decide) ?_
    | refine take_loadw (by rfl) 28 (by rfl) (g := S + 1) (n := 36) (by rfl) (t := 28) (xs := b) (fun w hw => hw.has qb0 (by omega)) Tryd.underlying28 rfl (by kernel_rfl) hb.len ?_
    | refine take_build (by rfl) (by rfl) (by refine build3 ?_ ?_ ?_ <;> (with_reducible first | exact Nm.F2 _ | exact Nm.F6 _ | assumption | (refine Nm.seg (m := 36) ?_ (by decide); assumption) | exact Nm.seg (m := 36) (Nm.F6 _) (by decide) | exact Nm.app3 (.F2 _) (.F2 _) (.F2 _) | fail)) ?_
    | refine wpTake_cons (.inl ⟨by rfl, fun w hw => (by unfold Oper.quietAt; go_simp; (first | with_reducible refine refNeg6 _ ?_ _ | with_reducible refine refAdd6 _ ?_ _ ?_ _) <;> (with_reducible first | exact Nm.F2 _ | exact Nm.F6 _ | assumption | (refine Nm.seg (m := 36) ?_ (by decide); assumption) | exact Nm.seg (m := 36) (Nm.F6 _) (by decide) | exact Nm.app3 (.F2 _) (.F2 _) (.F2 _) | fail))⟩) ?_
    | refine wpTake_cons (Steady.of_yields (Or.inl ⟨by rfl, fun w => (by first | (go_simp; done) | (go_simp; with_reducible rfl))⟩)) ?_); simp only [List.getElem_toArray, List.getElem_cons_zero, List.getElem_cons_succ, Act.put, List.setIfInBounds_toArray, List.set_cons_zero, List.set_cons_succ])
  refine wpTake_nil ?_
  refine tail_store (i := 4) (by rfl) (by kernel_rfl) (by kernel_rfl) (by rfl) 28 (.tmp 4) (.tmp 8) (by rfl) (by rfl) (S + 2) _ (by rfl) (by rfl) 28 _ qo0 (by rw [vals_size, (Nm.F6 _).len]; kernel_rfl) (by rw [vals_size, vals_size, (Nm.F6 _).len]; rfl) vals_one ?_
  intro w1 qo1 hbt
  have qa1 := hbt.has qa0 (by omega)
  have qb1 := hbt.has qb0 (by omega)
  have hb1 := hb0.trans (hbt.below (by omega) (HSS.out _ hb0))
  clear hbt hb0 qa0 qb0 qo0
  go_wp2
  refine bodyPost_ret (v := .agg (vals .u64 _)) (results_cell_row rfl _ _ (S + 2) _ _ _ _ rfl qo1.eq Tryd.underlying28 rfl (by rw [vals_size, (Nm.F6 _).len]; kernel_rfl)) rfl ⟨ret_eq (congrArg (fun z => Value.agg (vals .u64 z)) (F6_eq (by rw [hs_eq]; exact ha_congr E6.rfl (v6_F6 _)))), hb1⟩

end Go.Proofs.YtpkbbdhpdplkeaaDoor.Fp6
