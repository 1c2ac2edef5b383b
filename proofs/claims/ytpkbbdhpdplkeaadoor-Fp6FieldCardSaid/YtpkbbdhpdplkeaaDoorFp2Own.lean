/-
  Own text. The contracts of layer 7's landed package.
-/
import Derived.Test.YtpkbbdhpdplkeaaDoorFp2Ref2
import Derived.Test.YtpkbbdhpdplkeaaDoorFp2Eq
import Derived.Test.YtpkbbdhpdplkeaaDoorFp2Fp
namespace Go.Proofs.YtpkbbdhpdplkeaaDoor.Fp2
set_option linter.unusedVariables false
set_option linter.unusedSimpArgs false
open Go Go.RowKit Go.Proofs.YtpkbbdhpdplkeaaDoor.Reg Go.Proofs.YtpkbbdhpdplkeaaDoor.Base Go.Proofs.YtpkbbdhpdplkeaaDoor.Limb Go.Proofs.YtpkbbdhpdplkeaaDoor.Fp

section
variable {x : List Int}
theorem pRed (h : Nm 6 x) (w : World) (hG : Glob w) : Calls Tryd.prog 45 #[.agg (vals .u64 x)] w fun e w' => e = .returned (.agg (vals .u64 (Fp.fe (num x)))) ∧ Below w.heap.size w w' := fpReduce_c x h.len h.words w hG
theorem pNeg (h : Nm 6 x) (w : World) (hG : Glob w) : Calls Tryd.prog 55 #[.agg (vals .u64 x)] w fun e w' => e = .returned (.agg (vals .u64 (Fp.fe (-num x)))) ∧ Below w.heap.size w w' := fpNeg_c x h.len h.words w hG
end
theorem nfe (x : Int) : num (Fp.fe x) % PP = x % PP := by rw [num_fe, Int.emod_emod]
theorem mul_b (p q x y : Int) : Fp.fe (num (Fp.fe (num (Fp.fe p) * num (Fp.fe q))) - num (Fp.fe (num (Fp.fe x) + num (Fp.fe y)))) = Fp.fe (p * q - (x + y)) := by
  rw [fe_subl, fe_subr]
  refine fe_congr ?_
  have h1 := mulm (nfe p) (nfe q)
  have h2 : (num (Fp.fe x) + num (Fp.fe y)) % PP = (x + y) % PP := by rw [Int.add_emod, nfe, nfe, ← Int.add_emod]
  rw [Int.sub_emod, h1, h2, ← Int.sub_emod]
theorem mul_v (a b : List Int) : Fp.fe (num (Fp.fe (num (seg 0 6 a) * num (seg 0 6 b))) - num (Fp.fe (num (seg 6 6 a) * num (seg 6 6 b)))) ++ Fp.fe (num (Fp.fe (num (Fp.fe (num (seg 0 6 a) + num (seg 6 6 a))) * num (Fp.fe (num (seg 0 6 b) + num (seg 6 6 b))))) - num (Fp.fe (num (Fp.fe (num (seg 0 6 a) * num (seg 0 6 b))) + num (Fp.fe (num (seg 6 6 a) * num (seg 6 6 b)))))) = F2 (gm (v2 a) (v2 b)) := by
  rw [mul_b, fe_subl, fe_subr, F2]
  show _ = Fp.fe (num (seg 0 6 a) * num (seg 0 6 b) - num (seg 6 6 a) * num (seg 6 6 b)) ++ Fp.fe (num (seg 0 6 a) * num (seg 6 6 b) + num (seg 6 6 a) * num (seg 0 6 b))
  congr 2
  grind
theorem square_v (a : List Int) : Fp.fe (num (Fp.fe (num (seg 0 6 a) + num (seg 6 6 a))) * num (Fp.fe (num (seg 0 6 a) - num (seg 6 6 a)))) ++ Fp.fe (num (Fp.fe (num (seg 0 6 a) * num (seg 6 6 a))) + num (Fp.fe (num (seg 0 6 a) * num (seg 6 6 a)))) = F2 (gm (v2 a) (v2 a)) := by
  rw [fe_mull, fe_mulr, fe_addl, fe_addr, F2]
  show _ = Fp.fe (num (seg 0 6 a) * num (seg 0 6 a) - num (seg 6 6 a) * num (seg 6 6 a)) ++ Fp.fe (num (seg 0 6 a) * num (seg 6 6 a) + num (seg 6 6 a) * num (seg 0 6 a))
  congr 2 <;> grind
theorem xi_v (a : List Int) : Fp.fe (num (seg 0 6 a) - num (seg 6 6 a)) ++ Fp.fe (num (seg 0 6 a) + num (seg 6 6 a)) = F2 (gm (v2 a) (1, 1)) := by
  rw [F2]
  show _ = Fp.fe (num (seg 0 6 a) * 1 - num (seg 6 6 a) * 1) ++ Fp.fe (num (seg 0 6 a) * 1 + num (seg 6 6 a) * 1)
  rw [Int.mul_one, Int.mul_one]

set_option maxRecDepth 100000 in
set_option maxHeartbeats 4000000 in
theorem lRed2 (a : List Int) (ha : Nm 12 a) (w : World) (hG : Glob w) : Calls Tryd.prog 28 #[.agg (vals .u64 a)] w fun e w' => e = .returned (.agg (vals .u64 (F2 (v2 a)))) ∧ Below w.heap.size w w' := by
  obtain ⟨S, hS⟩ : ∃ S, w.heap.size = S := ⟨_, rfl⟩
  have Lo : Keep (Z12.length = 12) := ⟨rfl⟩
  have qa0 : Has ((w.alloc (.cells (vals .u64 a) 26)).alloc (.cells (vals .u64 Z12) 26)) (S) 26 (vals .u64 a) := ((Has.new' _ hS.symm _ _).alloc _)
  have qo0 : Has ((w.alloc (.cells (vals .u64 a) 26)).alloc (.cells (vals .u64 Z12) 26)) (S + 1) 26 (vals .u64 Z12) := (Has.new' _ (by simp only [World.size_alloc, hS]) _ _)
  have hb0 : Below S w ((w.alloc (.cells (vals .u64 a) 26)).alloc (.cells (vals .u64 Z12) 26)) := by rw [← hS]; exact (((Below.refl _ _).alloc (Nat.le_refl _) _).alloc (by simp <;> omega) _)
  have hsz0 : ((w.alloc (.cells (vals .u64 a) 26)).alloc (.cells (vals .u64 Z12) 26)).heap.size = S + 2 := by simp only [World.size_alloc, hS]
  have HSS : Keep (∀ x : World, Below S w x → S ≤ x.heap.size) := ⟨fun x hb => Nat.le_trans (by omega) hb.size⟩
  have HG : Keep (∀ x : World, Below S w x → Glob x) := ⟨fun x hb => hG.keep (by rw [hS]; exact hb)⟩
  clear hG
  rw [hS]
  go_enter Tryd.func28, Tryd.ntmps28
  go_wp2
  change Code.wp _ _ _ _ (((w.alloc (.cells (vals .u64 a) 26)).alloc (.cells (vals .u64 Z12) 26)))
  obtain ⟨w0, hw0⟩ : ∃ x, ((w.alloc (.cells (vals .u64 a) 26)).alloc (.cells (vals .u64 Z12) 26)) = x := ⟨_, rfl⟩
  rw [hw0] at hb0 hsz0 qa0 qo0 ⊢
  clear hw0
  refine wp_reads 7 1 (S + 1) (by kernel_rfl) (by kernel_rfl) (by rfl) (by kernel_rfl) (fun _ _ d _ _ h => by cases d <;> exact h) ?_
  simp only [List.take_succ_cons, List.take_zero]
  repeat ((first
    | refine take_load (by rfl) 24 (by rfl) (g := S) (n := 6) (by rfl) (t := 26) (xs := a) (fun w hw => hw.has qa0 (by omega)) Tryd.underlying24 rfl (by kernel_rfl) (by rw [ha.len]; decide) ?_
    | refine take_loadw (by rfl) 26 (by rfl) (g := S) (n := 12) (by rfl) (t := 26) (xs := a) (fun w hw => hw.has qa0 (by omega)) Tryd.underlying26 rfl (by kernel_rfl) ha.len ?_
    | refine take_build (by rfl) (by rfl) (by refine build2 ?_ ?_ <;> (with_reducible first | exact Nm.fe _ | exact Nm.F2 _ | assumption | exact nm_one | exact nm_Z6 | (refine Nm.seg (m := 12) ?_ (by decide); assumption) | exact Nm.seg (m := 12) (Nm.F2 _) (by decide) | exact Nm.app2 (.fe _) (.fe _) | fail)) ?_
    | refine wpTake_cons (.inl ⟨by rfl, fun w hw => (by unfold Oper.quietAt; go_simp; (first | with_reducible refine pRed ?_ _ (HG.out _ (hb0.trans (hw.below (by first | omega | exact HSS.out _ hb0) (HSS.out _ hb0)))) | with_reducible refine pAdd ?_ ?_ _ (HG.out _ (hb0.trans (hw.below (by first | omega | exact HSS.out _ hb0) (HSS.out _ hb0)))) | with_reducible refine pSub ?_ ?_ _ (HG.out _ (hb0.trans (hw.below (by first | omega | exact HSS.out _ hb0) (HSS.out _ hb0)))) | with_reducible refine pMul ?_ ?_ _ (HG.out _ (hb0.trans (hw.below (by first | omega | exact HSS.out _ hb0) (HSS.out _ hb0)))) | with_reducible refine pNeg ?_ _ (HG.out _ (hb0.trans (hw.below (by first | omega | exact HSS.out _ hb0) (HSS.out _ hb0))))) <;> (with_reducible first | exact Nm.fe _ | exact Nm.F2 _ | assumption | exact nm_one | exact nm_Z6 | (refine Nm.seg (m := 12) ?_ (by decide); assumption) | exact Nm.seg (m := 12) (Nm.F2 _) (by decide) | exact Nm.app2 (.fe _) (.fe _) | fail))⟩) ?_
    | refine wpTake_cons (Steady.of_yields (Or.inl ⟨by rfl, fun w => (by first | (go_simp; done) | (go_simp; with_reducible rfl))⟩)) ?_); simp only [List.getElem_toArray, List.getElem_cons_zero, List.getElem_cons_succ, Act.put, List.setIfInBounds_toArray, List.set_cons_zero, List.set_cons_succ])
  refine wpTake_nil ?_
  refine tail_store (i := 7) (by rfl) (by kernel_rfl) (by kernel_rfl) (by rfl) 26 (.tmp 2) (.tmp 9) (by rfl) (by rfl) (S + 1) _ (by rfl) (by rfl) 26 _ qo0 (by rw [vals_size, (Nm.app (.fe _) (.fe _)).len]; kernel_rfl) (by rw [vals_size, vals_size, (Nm.app (.fe _) (.fe _)).len]; rfl) vals_one ?_
  intro w1 qo1 hbt
  have qa1 := hbt.has qa0 (by omega)
  have hb1 := hb0.trans (hbt.below (by omega) (HSS.out _ hb0))
  clear hbt hb0 qa0 qo0
  go_wp2
  refine bodyPost_ret (v := .agg (vals .u64 _)) (results_cell_row rfl _ _ (S + 1) _ _ _ _ rfl qo1.eq Tryd.underlying26 rfl (by rw [vals_size, (Nm.app (.fe _) (.fe _)).len]; kernel_rfl)) rfl ⟨rfl, hb1⟩

set_option maxRecDepth 100000 in
set_option maxHeartbeats 4000000 in
theorem lAdd2 (a : List Int) (ha : Nm 12 a) (b : List Int) (hb : Nm 12 b) (w : World) (hG : Glob w) : Calls Tryd.prog 29 #[.agg (vals .u64 a), .agg (vals .u64 b)] w fun e w' => e = .returned (.agg (vals .u64 (F2 (ga (v2 a) (v2 b))))) ∧ Below w.heap.size w w' := by
  obtain ⟨S, hS⟩ : ∃ S, w.heap.size = S := ⟨_, rfl⟩
  have Lo : Keep (Z12.length = 12) := ⟨rfl⟩
  have qa0 : Has (((w.alloc (.cells (vals .u64 a) 26)).alloc (.cells (vals .u64 b) 26)).alloc (.cells (vals .u64 Z12) 26)) (S) 26 (vals .u64 a) := (((Has.new' _ hS.symm _ _).alloc _).alloc _)
  have qb0 : Has (((w.alloc (.cells (vals .u64 a) 26)).alloc (.cells (vals .u64 b) 26)).alloc (.cells (vals .u64 Z12) 26)) (S + 1) 26 (vals .u64 b) := ((Has.new' _ (by simp only [World.size_alloc, hS]) _ _).alloc _)
  have qo0 : Has (((w.alloc (.cells (vals .u64 a) 26)).alloc (.cells (vals .u64 b) 26)).alloc (.cells (vals .u64 Z12) 26)) (S + 2) 26 (vals .u64 Z12) := (Has.new' _ (by simp only [World.size_alloc, hS]) _ _)
  have hb0 : Below S w (((w.alloc (.cells (vals .u64 a) 26)).alloc (.cells (vals .u64 b) 26)).alloc (.cells (vals .u64 Z12) 26)) := by rw [← hS]; exact ((((Below.refl _ _).alloc (Nat.le_refl _) _).alloc (by simp <;> omega) _).alloc (by simp <;> omega) _)
  have hsz0 : (((w.alloc (.cells (vals .u64 a) 26)).alloc (.cells (vals .u64 b) 26)).alloc (.cells (vals .u64 Z12) 26)).heap.size = S + 3 := by simp only [World.size_alloc, hS]
  have HSS : Keep (∀ x : World, Below S w x → S ≤ x.heap.size) := ⟨fun x hb => Nat.le_trans (by omega) hb.size⟩
  have HG : Keep (∀ x : World, Below S w x → Glob x) := ⟨fun x hb => hG.keep (by rw [hS]; exact hb)⟩
  clear hG
  rw [hS]
  go_enter Tryd.func29, Tryd.ntmps29
  go_wp2
  change Code.wp _ _ _ _ ((((w.alloc (.cells (vals .u64 a) 26)).alloc (.cells (vals .u64 b) 26)).alloc (.cells (vals .u64 Z12) 26)))
  obtain ⟨w0, hw0⟩ : ∃ x, (((w.alloc (.cells (vals .u64 a) 26)).alloc (.cells (vals .u64 b) 26)).alloc (.cells (vals .u64 Z12) 26)) = x := ⟨_, rfl⟩
  rw [hw0] at hb0 hsz0 qa0 qb0 qo0 ⊢
  clear hw0
  refine wp_reads 11 1 (S + 2) (by kernel_rfl) (by kernel_rfl) (by rfl) (by kernel_rfl) (fun _ _ d _ _ h => by cases d <;> exact h) ?_
  simp only [List.take_succ_cons, List.take_zero]
  repeat ((first
    | refine take_load (by rfl) 24 (by rfl) (g := S) (n := 6) (by rfl) (t := 26) (xs := a) (fun w hw => hw.has qa0 (by omega)) Tryd.underlying24 rfl (by kernel_rfl) (by rw [ha.len]; decide) ?_
    | refine take_loadw (by rfl) 26 (by rfl) (g := S) (n := 12) (by rfl) (t := 26) (xs := a) (fun w hw => hw.has qa0 (by omega)) Tryd.underlying26 rfl (by kernel_rfl) ha.len ?_
    | refine take_load (by rfl) 24 (by rfl) (g := S + 1) (n := 6) (by rfl) (t := 26) (xs := b) (fun w hw => hw.has qb0 (by omega)) Tryd.underlying24 rfl (by kernel_rfl) (by rw [hb.len]; decide) ?_
    | refine take_loadw (by rfl) 26 (by rfl) (g := S + 1) (n := 12) (by rfl) (t := 26) (xs := b) (fun w hw => hw.has qb0 (by omega)) Tryd.underlying26 rfl (by kernel_rfl) hb.len ?_
    | refine take_build (by rfl) (by rfl) (by refine build2 ?_ ?_ <;> (with_reducible first | exact Nm.fe _ | exact Nm.F2 _ | assumption | exact nm_one | exact nm_Z6 | (refine Nm.seg (m := 12) ?_ (by decide); assumption) | exact Nm.seg (m := 12) (Nm.F2 _) (by decide) | exact Nm.app2 (.fe _) (.fe _) | fail)) ?_
    | refine wpTake_cons (.inl ⟨by rfl, fun w hw => (by unfold Oper.quietAt; go_simp; (first | with_reducible refine pRed ?_ _ (HG.out _ (hb0.trans (hw.below (by first | omega | exact HSS.out _ hb0) (HSS.out _ hb0)))) | with_reducible refine pAdd ?_ ?_ _ (HG.out _ (hb0.trans (hw.below (by first | omega | exact HSS.out _ hb0) (HSS.out _ hb0)))) | with_reducible refine pSub ?_ ?_ _ (HG.out _ (hb0.trans (hw.below (by first | omega | exact HSS.out _ hb0) (HSS.out _ hb0)))) | with_reducible refine pMul ?_ ?_ _ (HG.out _ (hb0.trans (hw.below (by first | omega | exact HSS.out _ hb0) (HSS.out _ hb0)))) | with_reducible refine pNeg ?_ _ (HG.out _ (hb0.trans (hw.below (by first | omega | exact HSS.out _ hb0) (HSS.out _ hb0))))) <;> (with_reducible first | exact Nm.fe _ | exact Nm.F2 _ | assumption | exact nm_one | exact nm_Z6 | (refine Nm.seg (m := 12) ?_ (by decide); assumption) | exact Nm.seg (m := 12) (Nm.F2 _) (by decide) | exact Nm.app2 (.fe _) (.fe _) | fail))⟩) ?_
    | refine wpTake_cons (Steady.of_yields (Or.inl ⟨by rfl, fun w => (by first | (go_simp; done) | (go_simp; with_reducible rfl))⟩)) ?_); simp only [List.getElem_toArray, List.getElem_cons_zero, List.getElem_cons_succ, Act.put, List.setIfInBounds_toArray, List.set_cons_zero, List.set_cons_succ])
  refine wpTake_nil ?_
  refine tail_store (i := 11) (by rfl) (by kernel_rfl) (by kernel_rfl) (by rfl) 26 (.tmp 4) (.tmp 15) (by rfl) (by rfl) (S + 2) _ (by rfl) (by rfl) 26 _ qo0 (by rw [vals_size, (Nm.app (.fe _) (.fe _)).len]; kernel_rfl) (by rw [vals_size, vals_size, (Nm.app (.fe _) (.fe _)).len]; rfl) vals_one ?_
  intro w1 qo1 hbt
  have qa1 := hbt.has qa0 (by omega)
  have qb1 := hbt.has qb0 (by omega)
  have hb1 := hb0.trans (hbt.below (by omega) (HSS.out _ hb0))
  clear hbt hb0 qa0 qb0 qo0
  go_wp2
  refine bodyPost_ret (v := .agg (vals .u64 _)) (results_cell_row rfl _ _ (S + 2) _ _ _ _ rfl qo1.eq Tryd.underlying26 rfl (by rw [vals_size, (Nm.app (.fe _) (.fe _)).len]; kernel_rfl)) rfl ⟨rfl, hb1⟩

set_option maxRecDepth 100000 in
set_option maxHeartbeats 4000000 in
theorem lSub2 (a : List Int) (ha : Nm 12 a) (b : List Int) (hb : Nm 12 b) (w : World) (hG : Glob w) : Calls Tryd.prog 36 #[.agg (vals .u64 a), .agg (vals .u64 b)] w fun e w' => e = .returned (.agg (vals .u64 (F2 (gs (v2 a) (v2 b))))) ∧ Below w.heap.size w w' := by
  obtain ⟨S, hS⟩ : ∃ S, w.heap.size = S := ⟨_, rfl⟩
  have Lo : Keep (Z12.length = 12) := ⟨rfl⟩
  have qa0 : Has (((w.alloc (.cells (vals .u64 a) 26)).alloc (.cells (vals .u64 b) 26)).alloc (.cells (vals .u64 Z12) 26)) (S) 26 (vals .u64 a) := (((Has.new' _ hS.symm _ _).alloc _).alloc _)
  have qb0 : Has (((w.alloc (.cells (vals .u64 a) 26)).alloc (.cells (vals .u64 b) 26)).alloc (.cells (vals .u64 Z12) 26)) (S + 1) 26 (vals .u64 b) := ((Has.new' _ (by simp only [World.size_alloc, hS]) _ _).alloc _)
  have qo0 : Has (((w.alloc (.cells (vals .u64 a) 26)).alloc (.cells (vals .u64 b) 26)).alloc (.cells (vals .u64 Z12) 26)) (S + 2) 26 (vals .u64 Z12) := (Has.new' _ (by simp only [World.size_alloc, hS]) _ _)
  have hb0 : Below S w (((w.alloc (.cells (vals .u64 a) 26)).alloc (.cells (vals .u64 b) 26)).alloc (.cells (vals .u64 Z12) 26)) := by rw [← hS]; exact ((((Below.refl _ _).alloc (Nat.le_refl _) _).alloc (by simp <;> omega) _).alloc (by simp <;> omega) _)
  have hsz0 : (((w.alloc (.cells (vals .u64 a) 26)).alloc (.cells (vals .u64 b) 26)).alloc (.cells (vals .u64 Z12) 26)).heap.size = S + 3 := by simp only [World.size_alloc, hS]
  have HSS : Keep (∀ x : World, Below S w x → S ≤ x.heap.size) := ⟨fun x hb => Nat.le_trans (by omega) hb.size⟩
  have HG : Keep (∀ x : World, Below S w x → Glob x) := ⟨fun x hb => hG.keep (by rw [hS]; exact hb)⟩
  clear hG
  rw [hS]
  go_enter Tryd.func36, Tryd.ntmps36
  go_wp2
  change Code.wp _ _ _ _ ((((w.alloc (.cells (vals .u64 a) 26)).alloc (.cells (vals .u64 b) 26)).alloc (.cells (vals .u64 Z12) 26)))
  obtain ⟨w0, hw0⟩ : ∃ x, (((w.alloc (.cells (vals .u64 a) 26)).alloc (.cells (vals .u64 b) 26)).alloc (.cells (vals .u64 Z12) 26)) = x := ⟨_, rfl⟩
  rw [hw0] at hb0 hsz0 qa0 qb0 qo0 ⊢
  clear hw0
  refine wp_reads 11 1 (S + 2) (by kernel_rfl) (by kernel_rfl) (by rfl) (by kernel_rfl) (fun _ _ d _ _ h => by cases d <;> exact h) ?_
  simp only [List.take_succ_cons, List.take_zero]
  repeat ((first
    | refine take_load (by rfl) 24 (by rfl) (g := S) (n := 6) (by rfl) (t := 26) (xs := a) (fun w hw => hw.has qa0 (by omega)) Tryd.underlying24 rfl (by kernel_rfl) (by rw [ha.len]; decide) ?_
    | refine take_loadw (by rfl) 26 (by rfl) (g := S) (n := 12) (by rfl) (t := 26) (xs := a) (fun w hw => hw.has qa0 (by omega)) Tryd.underlying26 rfl (by kernel_rfl) ha.len ?_
    | refine take_load (by rfl) 24 (by rfl) (g := S + 1) (n := 6) (by rfl) (t := 26) (xs := b) (fun w hw => hw.has qb0 (by omega)) Tryd.underlying24 rfl (by kernel_rfl) (by rw [hb.len]; decide) ?_
    | refine take_loadw (by rfl) 26 (by rfl) (g := S + 1) (n := 12) (by rfl) (t := 26) (xs := b) (fun w hw => hw.has qb0 (by omega)) Tryd.underlying26 rfl (by kernel_rfl) hb.len ?_
    | refine take_build (by rfl) (by rfl) (by refine build2 ?_ ?_ <;> (with_reducible first | exact Nm.fe _ | exact Nm.F2 _ | assumption | exact nm_one | exact nm_Z6 | (refine Nm.seg (m := 12) ?_ (by decide); assumption) | exact Nm.seg (m := 12) (Nm.F2 _) (by decide) | exact Nm.app2 (.fe _) (.fe _) | fail)) ?_
    | refine wpTake_cons (.inl ⟨by rfl, fun w hw => (by unfold Oper.quietAt; go_simp; (first | with_reducible refine pRed ?_ _ (HG.out _ (hb0.trans (hw.below (by first | omega | exact HSS.out _ hb0) (HSS.out _ hb0)))) | with_reducible refine pAdd ?_ ?_ _ (HG.out _ (hb0.trans (hw.below (by first | omega | exact HSS.out _ hb0) (HSS.out _ hb0)))) | with_reducible refine pSub ?_ ?_ _ (HG.out _ (hb0.trans (hw.below (by first | omega | exact HSS.out _ hb0) (HSS.out _ hb0)))) | with_reducible refine pMul ?_ ?_ _ (HG.out _ (hb0.trans (hw.below (by first | omega | exact HSS.out _ hb0) (HSS.out _ hb0)))) | with_reducible refine pNeg ?_ _ (HG.out _ (hb0.trans (hw.below (by first | omega | exact HSS.out _ hb0) (HSS.out _ hb0))))) <;> (with_reducible first | exact Nm.fe _ | exact Nm.F2 _ | assumption | exact nm_one | exact nm_Z6 | (refine Nm.seg (m := 12) ?_ (by decide); assumption) | exact Nm.seg (m := 12) (Nm.F2 _) (by decide) | exact Nm.app2 (.fe _) (.fe _) | fail))⟩) ?_
    | refine wpTake_cons (Steady.of_yields (Or.inl ⟨by rfl, fun w => (by first | (go_simp; done) | (go_simp; with_reducible rfl))⟩)) ?_); simp only [List.getElem_toArray, List.getElem_cons_zero, List.getElem_cons_succ, Act.put, List.setIfInBounds_toArray, List.set_cons_zero, List.set_cons_succ])
  refine wpTake_nil ?_
  refine tail_store (i := 11) (by rfl) (by kernel_rfl) (by kernel_rfl) (by rfl) 26 (.tmp 4) (.tmp 15) (by rfl) (by rfl) (S + 2) _ (by rfl) (by rfl) 26 _ qo0 (by rw [vals_size, (Nm.app (.fe _) (.fe _)).len]; kernel_rfl) (by rw [vals_size, vals_size, (Nm.app (.fe _) (.fe _)).len]; rfl) vals_one ?_
  intro w1 qo1 hbt
  have qa1 := hbt.has qa0 (by omega)
  have qb1 := hbt.has qb0 (by omega)
  have hb1 := hb0.trans (hbt.below (by omega) (HSS.out _ hb0))
  clear hbt hb0 qa0 qb0 qo0
  go_wp2
  refine bodyPost_ret (v := .agg (vals .u64 _)) (results_cell_row rfl _ _ (S + 2) _ _ _ _ rfl qo1.eq Tryd.underlying26 rfl (by rw [vals_size, (Nm.app (.fe _) (.fe _)).len]; kernel_rfl)) rfl ⟨rfl, hb1⟩

set_option maxRecDepth 100000 in
set_option maxHeartbeats 4000000 in
theorem lNeg2 (a : List Int) (ha : Nm 12 a) (w : World) (hG : Glob w) : Calls Tryd.prog 32 #[.agg (vals .u64 a)] w fun e w' => e = .returned (.agg (vals .u64 (F2 (gn (v2 a))))) ∧ Below w.heap.size w w' := by
  obtain ⟨S, hS⟩ : ∃ S, w.heap.size = S := ⟨_, rfl⟩
  have Lo : Keep (Z12.length = 12) := ⟨rfl⟩
  have qa0 : Has ((w.alloc (.cells (vals .u64 a) 26)).alloc (.cells (vals .u64 Z12) 26)) (S) 26 (vals .u64 a) := ((Has.new' _ hS.symm _ _).alloc _)
  have qo0 : Has ((w.alloc (.cells (vals .u64 a) 26)).alloc (.cells (vals .u64 Z12) 26)) (S + 1) 26 (vals .u64 Z12) := (Has.new' _ (by simp only [World.size_alloc, hS]) _ _)
  have hb0 : Below S w ((w.alloc (.cells (vals .u64 a) 26)).alloc (.cells (vals .u64 Z12) 26)) := by rw [← hS]; exact (((Below.refl _ _).alloc (Nat.le_refl _) _).alloc (by simp <;> omega) _)
  have hsz0 : ((w.alloc (.cells (vals .u64 a) 26)).alloc (.cells (vals .u64 Z12) 26)).heap.size = S + 2 := by simp only [World.size_alloc, hS]
  have HSS : Keep (∀ x : World, Below S w x → S ≤ x.heap.size) := ⟨fun x hb => Nat.le_trans (by omega) hb.size⟩
  have HG : Keep (∀ x : World, Below S w x → Glob x) := ⟨fun x hb => hG.keep (by rw [hS]; exact hb)⟩
  clear hG
  rw [hS]
  go_enter Tryd.func32, Tryd.ntmps32
  go_wp2
  change Code.wp _ _ _ _ (((w.alloc (.cells (vals .u64 a) 26)).alloc (.cells (vals .u64 Z12) 26)))
  obtain ⟨w0, hw0⟩ : ∃ x, ((w.alloc (.cells (vals .u64 a) 26)).alloc (.cells (vals .u64 Z12) 26)) = x := ⟨_, rfl⟩
  rw [hw0] at hb0 hsz0 qa0 qo0 ⊢
  clear hw0
  refine wp_reads 7 1 (S + 1) (by kernel_rfl) (by kernel_rfl) (by rfl) (by kernel_rfl) (fun _ _ d _ _ h => by cases d <;> exact h) ?_
  simp only [List.take_succ_cons, List.take_zero]
  repeat ((first
    | refine take_load (by rfl) 24 (by rfl) (g := S) (n := 6) (by rfl) (t := 26) (xs := a) (fun w hw => hw.has qa0 (by omega)) Tryd.underlying24 rfl (by kernel_rfl) (by rw [ha.len]; decide) ?_
    | refine take_loadw (by rfl) 26 (by rfl) (g := S) (n := 12) (by rfl) (t := 26) (xs := a) (fun w hw => hw.has qa0 (by omega)) Tryd.underlying26 rfl (by kernel_rfl) ha.len ?_
    | refine take_build (by rfl) (by rfl) (by refine build2 ?_ ?_ <;> (with_reducible first | exact Nm.fe _ | exact Nm.F2 _ | assumption | exact nm_one | exact nm_Z6 | (refine Nm.seg (m := 12) ?_ (by decide); assumption) | exact Nm.seg (m := 12) (Nm.F2 _) (by decide) | exact Nm.app2 (.fe _) (.fe _) | fail)) ?_
    | refine wpTake_cons (.inl ⟨by rfl, fun w hw => (by unfold Oper.quietAt; go_simp; (first | with_reducible refine pRed ?_ _ (HG.out _ (hb0.trans (hw.below (by first | omega | exact HSS.out _ hb0) (HSS.out _ hb0)))) | with_reducible refine pAdd ?_ ?_ _ (HG.out _ (hb0.trans (hw.below (by first | omega | exact HSS.out _ hb0) (HSS.out _ hb0)))) | with_reducible refine pSub ?_ ?_ _ (HG.out _ (hb0.trans (hw.below (by first | omega | exact HSS.out _ hb0) (HSS.out _ hb0)))) | with_reducible refine pMul ?_ ?_ _ (HG.out _ (hb0.trans (hw.below (by first | omega | exact HSS.out _ hb0) (HSS.out _ hb0)))) | with_reducible refine pNeg ?_ _ (HG.out _ (hb0.trans (hw.below (by first | omega | exact HSS.out _ hb0) (HSS.out _ hb0))))) <;> (with_reducible first | exact Nm.fe _ | exact Nm.F2 _ | assumption | exact nm_one | exact nm_Z6 | (refine Nm.seg (m := 12) ?_ (by decide); assumption) | exact Nm.seg (m := 12) (Nm.F2 _) (by decide) | exact Nm.app2 (.fe _) (.fe _) | fail))⟩) ?_
    | refine wpTake_cons (Steady.of_yields (Or.inl ⟨by rfl, fun w => (by first | (go_simp; done) | (go_simp; with_reducible rfl))⟩)) ?_); simp only [List.getElem_toArray, List.getElem_cons_zero, List.getElem_cons_succ, Act.put, List.setIfInBounds_toArray, List.set_cons_zero, List.set_cons_succ])
  refine wpTake_nil ?_
  refine tail_store (i := 7) (by rfl) (by kernel_rfl) (by kernel_rfl) (by rfl) 26 (.tmp 2) (.tmp 9) (by rfl) (by rfl) (S + 1) _ (by rfl) (by rfl) 26 _ qo0 (by rw [vals_size, (Nm.app (.fe _) (.fe _)).len]; kernel_rfl) (by rw [vals_size, vals_size, (Nm.app (.fe _) (.fe _)).len]; rfl) vals_one ?_
  intro w1 qo1 hbt
  have qa1 := hbt.has qa0 (by omega)
  have hb1 := hb0.trans (hbt.below (by omega) (HSS.out _ hb0))
  clear hbt hb0 qa0 qo0
  go_wp2
  refine bodyPost_ret (v := .agg (vals .u64 _)) (results_cell_row rfl _ _ (S + 1) _ _ _ _ rfl qo1.eq Tryd.underlying26 rfl (by rw [vals_size, (Nm.app (.fe _) (.fe _)).len]; kernel_rfl)) rfl ⟨rfl, hb1⟩

set_option maxRecDepth 100000 in
set_option maxHeartbeats 4000000 in
theorem lConj2 (a : List Int) (ha : Nm 12 a) (w : World) (hG : Glob w) : Calls Tryd.prog 53 #[.agg (vals .u64 a)] w fun e w' => e = .returned (.agg (vals .u64 (F2 (gc (v2 a))))) ∧ Below w.heap.size w w' := by
  obtain ⟨S, hS⟩ : ∃ S, w.heap.size = S := ⟨_, rfl⟩
  have Lo : Keep (Z12.length = 12) := ⟨rfl⟩
  have qa0 : Has ((w.alloc (.cells (vals .u64 a) 26)).alloc (.cells (vals .u64 Z12) 26)) (S) 26 (vals .u64 a) := ((Has.new' _ hS.symm _ _).alloc _)
  have qo0 : Has ((w.alloc (.cells (vals .u64 a) 26)).alloc (.cells (vals .u64 Z12) 26)) (S + 1) 26 (vals .u64 Z12) := (Has.new' _ (by simp only [World.size_alloc, hS]) _ _)
  have hb0 : Below S w ((w.alloc (.cells (vals .u64 a) 26)).alloc (.cells (vals .u64 Z12) 26)) := by rw [← hS]; exact (((Below.refl _ _).alloc (Nat.le_refl _) _).alloc (by simp <;> omega) _)
  have hsz0 : ((w.alloc (.cells (vals .u64 a) 26)).alloc (.cells (vals .u64 Z12) 26)).heap.size = S + 2 := by simp only [World.size_alloc, hS]
  have HSS : Keep (∀ x : World, Below S w x → S ≤ x.heap.size) := ⟨fun x hb => Nat.le_trans (by omega) hb.size⟩
  have HG : Keep (∀ x : World, Below S w x → Glob x) := ⟨fun x hb => hG.keep (by rw [hS]; exact hb)⟩
  clear hG
  rw [hS]
  go_enter Tryd.func53, Tryd.ntmps53
  go_wp2
  change Code.wp _ _ _ _ (((w.alloc (.cells (vals .u64 a) 26)).alloc (.cells (vals .u64 Z12) 26)))
  obtain ⟨w0, hw0⟩ : ∃ x, ((w.alloc (.cells (vals .u64 a) 26)).alloc (.cells (vals .u64 Z12) 26)) = x := ⟨_, rfl⟩
  rw [hw0] at hb0 hsz0 qa0 qo0 ⊢
  clear hw0
  refine wp_reads 7 1 (S + 1) (by kernel_rfl) (by kernel_rfl) (by rfl) (by kernel_rfl) (fun _ _ d _ _ h => by cases d <;> exact h) ?_
  simp only [List.take_succ_cons, List.take_zero]
  repeat ((first
    | refine take_load (by rfl) 24 (by rfl) (g := S) (n := 6) (by rfl) (t := 26) (xs := a) (fun w hw => hw.has qa0 (by omega)) Tryd.underlying24 rfl (by kernel_rfl) (by rw [ha.len]; decide) ?_
    | refine take_loadw (by rfl) 26 (by rfl) (g := S) (n := 12) (by rfl) (t := 26) (xs := a) (fun w hw => hw.has qa0 (by omega)) Tryd.underlying26 rfl (by kernel_rfl) ha.len ?_
    | refine take_build (by rfl) (by rfl) (by refine build2 ?_ ?_ <;> (with_reducible first | exact Nm.fe _ | exact Nm.F2 _ | assumption | exact nm_one | exact nm_Z6 | (refine Nm.seg (m := 12) ?_ (by decide); assumption) | exact Nm.seg (m := 12) (Nm.F2 _) (by decide) | exact Nm.app2 (.fe _) (.fe _) | fail)) ?_
    | refine wpTake_cons (.inl ⟨by rfl, fun w hw => (by unfold Oper.quietAt; go_simp; (first | with_reducible refine pRed ?_ _ (HG.out _ (hb0.trans (hw.below (by first | omega | exact HSS.out _ hb0) (HSS.out _ hb0)))) | with_reducible refine pAdd ?_ ?_ _ (HG.out _ (hb0.trans (hw.below (by first | omega | exact HSS.out _ hb0) (HSS.out _ hb0)))) | with_reducible refine pSub ?_ ?_ _ (HG.out _ (hb0.trans (hw.below (by first | omega | exact HSS.out _ hb0) (HSS.out _ hb0)))) | with_reducible refine pMul ?_ ?_ _ (HG.out _ (hb0.trans (hw.below (by first | omega | exact HSS.out _ hb0) (HSS.out _ hb0)))) | with_reducible refine pNeg ?_ _ (HG.out _ (hb0.trans (hw.below (by first | omega | exact HSS.out _ hb0) (HSS.out _ hb0))))) <;> (with_reducible first | exact Nm.fe _ | exact Nm.F2 _ | assumption | exact nm_one | exact nm_Z6 | (refine Nm.seg (m := 12) ?_ (by decide); assumption) | exact Nm.seg (m := 12) (Nm.F2 _) (by decide) | exact Nm.app2 (.fe _) (.fe _) | fail))⟩) ?_
    | refine wpTake_cons (Steady.of_yields (Or.inl ⟨by rfl, fun w => (by first | (go_simp; done) | (go_simp; with_reducible rfl))⟩)) ?_); simp only [List.getElem_toArray, List.getElem_cons_zero, List.getElem_cons_succ, Act.put, List.setIfInBounds_toArray, List.set_cons_zero, List.set_cons_succ])
  refine wpTake_nil ?_
  refine tail_store (i := 7) (by rfl) (by kernel_rfl) (by kernel_rfl) (by rfl) 26 (.tmp 2) (.tmp 9) (by rfl) (by rfl) (S + 1) _ (by rfl) (by rfl) 26 _ qo0 (by rw [vals_size, (Nm.app (.fe _) (.fe _)).len]; kernel_rfl) (by rw [vals_size, vals_size, (Nm.app (.fe _) (.fe _)).len]; rfl) vals_one ?_
  intro w1 qo1 hbt
  have qa1 := hbt.has qa0 (by omega)
  have hb1 := hb0.trans (hbt.below (by omega) (HSS.out _ hb0))
  clear hbt hb0 qa0 qo0
  go_wp2
  refine bodyPost_ret (v := .agg (vals .u64 _)) (results_cell_row rfl _ _ (S + 1) _ _ _ _ rfl qo1.eq Tryd.underlying26 rfl (by rw [vals_size, (Nm.app (.fe _) (.fe _)).len]; kernel_rfl)) rfl ⟨rfl, hb1⟩

set_option maxRecDepth 100000 in
set_option maxHeartbeats 4000000 in
theorem lScale2 (a : List Int) (ha : Nm 12 a) (k : List Int) (hk : Nm 6 k) (w : World) (hG : Glob w) : Calls Tryd.prog 52 #[.agg (vals .u64 a), .agg (vals .u64 k)] w fun e w' => e = .returned (.agg (vals .u64 (F2 (gk (v2 a) (num k))))) ∧ Below w.heap.size w w' := by
  obtain ⟨S, hS⟩ : ∃ S, w.heap.size = S := ⟨_, rfl⟩
  have Lo : Keep (Z12.length = 12) := ⟨rfl⟩
  have qa0 : Has (((w.alloc (.cells (vals .u64 a) 26)).alloc (.cells (vals .u64 k) 24)).alloc (.cells (vals .u64 Z12) 26)) (S) 26 (vals .u64 a) := (((Has.new' _ hS.symm _ _).alloc _).alloc _)
  have qk0 : Has (((w.alloc (.cells (vals .u64 a) 26)).alloc (.cells (vals .u64 k) 24)).alloc (.cells (vals .u64 Z12) 26)) (S + 1) 24 (vals .u64 k) := ((Has.new' _ (by simp only [World.size_alloc, hS]) _ _).alloc _)
  have qo0 : Has (((w.alloc (.cells (vals .u64 a) 26)).alloc (.cells (vals .u64 k) 24)).alloc (.cells (vals .u64 Z12) 26)) (S + 2) 26 (vals .u64 Z12) := (Has.new' _ (by simp only [World.size_alloc, hS]) _ _)
  have hb0 : Below S w (((w.alloc (.cells (vals .u64 a) 26)).alloc (.cells (vals .u64 k) 24)).alloc (.cells (vals .u64 Z12) 26)) := by rw [← hS]; exact ((((Below.refl _ _).alloc (Nat.le_refl _) _).alloc (by simp <;> omega) _).alloc (by simp <;> omega) _)
  have hsz0 : (((w.alloc (.cells (vals .u64 a) 26)).alloc (.cells (vals .u64 k) 24)).alloc (.cells (vals .u64 Z12) 26)).heap.size = S + 3 := by simp only [World.size_alloc, hS]
  have HSS : Keep (∀ x : World, Below S w x → S ≤ x.heap.size) := ⟨fun x hb => Nat.le_trans (by omega) hb.size⟩
  have HG : Keep (∀ x : World, Below S w x → Glob x) := ⟨fun x hb => hG.keep (by rw [hS]; exact hb)⟩
  clear hG
  rw [hS]
  go_enter Tryd.func52, Tryd.ntmps52
  go_wp2
  change Code.wp _ _ _ _ ((((w.alloc (.cells (vals .u64 a) 26)).alloc (.cells (vals .u64 k) 24)).alloc (.cells (vals .u64 Z12) 26)))
  obtain ⟨w0, hw0⟩ : ∃ x, (((w.alloc (.cells (vals .u64 a) 26)).alloc (.cells (vals .u64 k) 24)).alloc (.cells (vals .u64 Z12) 26)) = x := ⟨_, rfl⟩
  rw [hw0] at hb0 hsz0 qa0 qk0 qo0 ⊢
  clear hw0
  refine wp_reads 9 1 (S + 2) (by kernel_rfl) (by kernel_rfl) (by rfl) (by kernel_rfl) (fun _ _ d _ _ h => by cases d <;> exact h) ?_
  simp only [List.take_succ_cons, List.take_zero]
  repeat ((first
    | refine take_load (by rfl) 24 (by rfl) (g := S) (n := 6) (by rfl) (t := 26) (xs := a) (fun w hw => hw.has qa0 (by omega)) Tryd.underlying24 rfl (by kernel_rfl) (by rw [ha.len]; decide) ?_
    | refine take_loadw (by rfl) 26 (by rfl) (g := S) (n := 12) (by rfl) (t := 26) (xs := a) (fun w hw => hw.has qa0 (by omega)) Tryd.underlying26 rfl (by kernel_rfl) ha.len ?_
    | refine take_loadw (by rfl) 24 (by rfl) (g := S + 1) (n := 6) (by rfl) (t := 24) (xs := k) (fun w hw => hw.has qk0 (by omega)) Tryd.underlying24 rfl (by kernel_rfl) hk.len ?_
    | refine take_build (by rfl) (by rfl) (by refine build2 ?_ ?_ <;> (with_reducible first | exact Nm.fe _ | exact Nm.F2 _ | assumption | exact nm_one | exact nm_Z6 | (refine Nm.seg (m := 12) ?_ (by decide); assumption) | exact Nm.seg (m := 12) (Nm.F2 _) (by decide) | exact Nm.app2 (.fe _) (.fe _) | fail)) ?_
    | refine wpTake_cons (.inl ⟨by rfl, fun w hw => (by unfold Oper.quietAt; go_simp; (first | with_reducible refine pRed ?_ _ (HG.out _ (hb0.trans (hw.below (by first | omega | exact HSS.out _ hb0) (HSS.out _ hb0)))) | with_reducible refine pAdd ?_ ?_ _ (HG.out _ (hb0.trans (hw.below (by first | omega | exact HSS.out _ hb0) (HSS.out _ hb0)))) | with_reducible refine pSub ?_ ?_ _ (HG.out _ (hb0.trans (hw.below (by first | omega | exact HSS.out _ hb0) (HSS.out _ hb0)))) | with_reducible refine pMul ?_ ?_ _ (HG.out _ (hb0.trans (hw.below (by first | omega | exact HSS.out _ hb0) (HSS.out _ hb0)))) | with_reducible refine pNeg ?_ _ (HG.out _ (hb0.trans (hw.below (by first | omega | exact HSS.out _ hb0) (HSS.out _ hb0))))) <;> (with_reducible first | exact Nm.fe _ | exact Nm.F2 _ | assumption | exact nm_one | exact nm_Z6 | (refine Nm.seg (m := 12) ?_ (by decide); assumption) | exact Nm.seg (m := 12) (Nm.F2 _) (by decide) | exact Nm.app2 (.fe _) (.fe _) | fail))⟩) ?_
    | refine wpTake_cons (Steady.of_yields (Or.inl ⟨by rfl, fun w => (by first | (go_simp; done) | (go_simp; with_reducible rfl))⟩)) ?_); simp only [List.getElem_toArray, List.getElem_cons_zero, List.getElem_cons_succ, Act.put, List.setIfInBounds_toArray, List.set_cons_zero, List.set_cons_succ])
  refine wpTake_nil ?_
  refine tail_store (i := 9) (by rfl) (by kernel_rfl) (by kernel_rfl) (by rfl) 26 (.tmp 4) (.tmp 13) (by rfl) (by rfl) (S + 2) _ (by rfl) (by rfl) 26 _ qo0 (by rw [vals_size, (Nm.app (.fe _) (.fe _)).len]; kernel_rfl) (by rw [vals_size, vals_size, (Nm.app (.fe _) (.fe _)).len]; rfl) vals_one ?_
  intro w1 qo1 hbt
  have qa1 := hbt.has qa0 (by omega)
  have qk1 := hbt.has qk0 (by omega)
  have hb1 := hb0.trans (hbt.below (by omega) (HSS.out _ hb0))
  clear hbt hb0 qa0 qk0 qo0
  go_wp2
  refine bodyPost_ret (v := .agg (vals .u64 _)) (results_cell_row rfl _ _ (S + 2) _ _ _ _ rfl qo1.eq Tryd.underlying26 rfl (by rw [vals_size, (Nm.app (.fe _) (.fe _)).len]; kernel_rfl)) rfl ⟨rfl, hb1⟩

set_option maxRecDepth 100000 in
set_option maxHeartbeats 4000000 in
theorem lPartA (a : List Int) (ha : Nm 12 a) (w : World) : Calls Tryd.prog 50 #[.agg (vals .u64 a)] w fun e w' => e = .returned (.agg (vals .u64 (seg 0 6 a))) ∧ Below w.heap.size w w' := by
  obtain ⟨S, hS⟩ : ∃ S, w.heap.size = S := ⟨_, rfl⟩
  have Lo : Keep (Z6.length = 6) := ⟨rfl⟩
  have qa0 : Has ((w.alloc (.cells (vals .u64 a) 26)).alloc (.cells (vals .u64 Z6) 24)) (S) 26 (vals .u64 a) := ((Has.new' _ hS.symm _ _).alloc _)
  have qo0 : Has ((w.alloc (.cells (vals .u64 a) 26)).alloc (.cells (vals .u64 Z6) 24)) (S + 1) 24 (vals .u64 Z6) := (Has.new' _ (by simp only [World.size_alloc, hS]) _ _)
  have hb0 : Below S w ((w.alloc (.cells (vals .u64 a) 26)).alloc (.cells (vals .u64 Z6) 24)) := by rw [← hS]; exact (((Below.refl _ _).alloc (Nat.le_refl _) _).alloc (by simp <;> omega) _)
  have hsz0 : ((w.alloc (.cells (vals .u64 a) 26)).alloc (.cells (vals .u64 Z6) 24)).heap.size = S + 2 := by simp only [World.size_alloc, hS]
  have HSS : Keep (∀ x : World, Below S w x → S ≤ x.heap.size) := ⟨fun x hb => Nat.le_trans (by omega) hb.size⟩
  rw [hS]
  go_enter Tryd.func50, Tryd.ntmps50
  go_wp2_with (first
    | (refine store_abs2 (by rfl) 24 (.tmp 2) (.tmp 4) (by rfl) (by rfl) (S + 1) (vals .u64 (seg 0 6 a)) (by rfl) (by rfl) 24 _ qo0 (by rw [vals_size, (Nm.seg ha (by decide)).len]; kernel_rfl) (by rw [vals_size, vals_size, (Nm.seg ha (by decide)).len, Lo.out]) vals_one ?_
       intro w1 qo1 hkeep hbg
       have qa1 := hkeep _ _ _ qa0 (by omega)
       have hb1 := hb0.trans (hbg.mono (by omega))
       clear hkeep hbg hb0 qa0 qo0)
    | (refine load_seg (by rfl) 24 (.tmp 3) (by rfl) (S) 0 6 (by rfl) 26 .u64 a (seg 0 6 a) _ qa0 Tryd.underlying24 rfl (by kernel_rfl) rfl (by rw [ha.len]; decide) ?_))
  refine bodyPost_ret (v := .agg (vals .u64 (seg 0 6 a))) (results_cell_row rfl _ _ (S + 1) _ _ _ _ rfl qo1.eq Tryd.underlying24 rfl (by rw [vals_size, (Nm.seg ha (by decide)).len]; kernel_rfl)) rfl ⟨rfl, hb1⟩

set_option maxRecDepth 100000 in
set_option maxHeartbeats 4000000 in
theorem lPartB (a : List Int) (ha : Nm 12 a) (w : World) : Calls Tryd.prog 51 #[.agg (vals .u64 a)] w fun e w' => e = .returned (.agg (vals .u64 (seg 6 6 a))) ∧ Below w.heap.size w w' := by
  obtain ⟨S, hS⟩ : ∃ S, w.heap.size = S := ⟨_, rfl⟩
  have Lo : Keep (Z6.length = 6) := ⟨rfl⟩
  have qa0 : Has ((w.alloc (.cells (vals .u64 a) 26)).alloc (.cells (vals .u64 Z6) 24)) (S) 26 (vals .u64 a) := ((Has.new' _ hS.symm _ _).alloc _)
  have qo0 : Has ((w.alloc (.cells (vals .u64 a) 26)).alloc (.cells (vals .u64 Z6) 24)) (S + 1) 24 (vals .u64 Z6) := (Has.new' _ (by simp only [World.size_alloc, hS]) _ _)
  have hb0 : Below S w ((w.alloc (.cells (vals .u64 a) 26)).alloc (.cells (vals .u64 Z6) 24)) := by rw [← hS]; exact (((Below.refl _ _).alloc (Nat.le_refl _) _).alloc (by simp <;> omega) _)
  have hsz0 : ((w.alloc (.cells (vals .u64 a) 26)).alloc (.cells (vals .u64 Z6) 24)).heap.size = S + 2 := by simp only [World.size_alloc, hS]
  have HSS : Keep (∀ x : World, Below S w x → S ≤ x.heap.size) := ⟨fun x hb => Nat.le_trans (by omega) hb.size⟩
  rw [hS]
  go_enter Tryd.func51, Tryd.ntmps51
  go_wp2_with (first
    | (refine store_abs2 (by rfl) 24 (.tmp 2) (.tmp 4) (by rfl) (by rfl) (S + 1) (vals .u64 (seg 6 6 a)) (by rfl) (by rfl) 24 _ qo0 (by rw [vals_size, (Nm.seg ha (by decide)).len]; kernel_rfl) (by rw [vals_size, vals_size, (Nm.seg ha (by decide)).len, Lo.out]) vals_one ?_
       intro w1 qo1 hkeep hbg
       have qa1 := hkeep _ _ _ qa0 (by omega)
       have hb1 := hb0.trans (hbg.mono (by omega))
       clear hkeep hbg hb0 qa0 qo0)
    | (refine load_seg (by rfl) 24 (.tmp 3) (by rfl) (S) 6 6 (by rfl) 26 .u64 a (seg 6 6 a) _ qa0 Tryd.underlying24 rfl (by kernel_rfl) rfl (by rw [ha.len]; decide) ?_))
  refine bodyPost_ret (v := .agg (vals .u64 (seg 6 6 a))) (results_cell_row rfl _ _ (S + 1) _ _ _ _ rfl qo1.eq Tryd.underlying24 rfl (by rw [vals_size, (Nm.seg ha (by decide)).len]; kernel_rfl)) rfl ⟨rfl, hb1⟩

set_option maxRecDepth 100000 in
set_option maxHeartbeats 4000000 in
theorem lSum2 (a : List Int) (ha : Nm 12 a) (w : World) (hG : Glob w) : Calls Tryd.prog 44 #[.agg (vals .u64 a)] w fun e w' => e = .returned (.agg (vals .u64 ((Fp.fe (num (seg 0 6 a) + num (seg 6 6 a)))))) ∧ Below w.heap.size w w' := by
  obtain ⟨S, hS⟩ : ∃ S, w.heap.size = S := ⟨_, rfl⟩
  have Lo : Keep (Z6.length = 6) := ⟨rfl⟩
  have qa0 : Has ((w.alloc (.cells (vals .u64 a) 26)).alloc (.cells (vals .u64 Z6) 24)) (S) 26 (vals .u64 a) := ((Has.new' _ hS.symm _ _).alloc _)
  have qo0 : Has ((w.alloc (.cells (vals .u64 a) 26)).alloc (.cells (vals .u64 Z6) 24)) (S + 1) 24 (vals .u64 Z6) := (Has.new' _ (by simp only [World.size_alloc, hS]) _ _)
  have hb0 : Below S w ((w.alloc (.cells (vals .u64 a) 26)).alloc (.cells (vals .u64 Z6) 24)) := by rw [← hS]; exact (((Below.refl _ _).alloc (Nat.le_refl _) _).alloc (by simp <;> omega) _)
  have hsz0 : ((w.alloc (.cells (vals .u64 a) 26)).alloc (.cells (vals .u64 Z6) 24)).heap.size = S + 2 := by simp only [World.size_alloc, hS]
  have HSS : Keep (∀ x : World, Below S w x → S ≤ x.heap.size) := ⟨fun x hb => Nat.le_trans (by omega) hb.size⟩
  have HG : Keep (∀ x : World, Below S w x → Glob x) := ⟨fun x hb => hG.keep (by rw [hS]; exact hb)⟩
  clear hG
  rw [hS]
  go_enter Tryd.func44, Tryd.ntmps44
  go_wp2_with (first
    | (refine store_abs2 (by rfl) 24 (.tmp 2) (.tmp 7) (by rfl) (by rfl) (S + 1) (vals .u64 (Fp.fe (num (seg 0 6 a) + num (seg 6 6 a)))) (by rfl) (by rfl) 24 _ qo1 (by rw [vals_size, (Nm.fe _).len]; kernel_rfl) (by rw [vals_size, vals_size, (Nm.fe _).len, Lo.out]) vals_one ?_
       intro w2 qo2 hkeep hbg
       have qa2 := hkeep _ _ _ qa1 (by omega)
       have hb2 := hb1.trans (hbg.mono (by omega))
       clear hkeep hbg hb1 qa1 qo1)
    | (have hq0 := hb0
       clear hq0
       go_at_call 46
       refine (pAdd (x := seg 0 6 a) (y := seg 6 6 a) (ha.seg (by decide)) (ha.seg (by decide)) _ (HG.out _ hb0)).mono ?_
       rintro e w1 ⟨rfl, hq⟩
       have qa1 := qa0.keep hq
       have qo1 := qo0.keep hq
       have hb1 := hb0.trans (hq.mono (HSS.out _ hb0))
       clear hq hb0 qa0 qo0)
    | (refine load_seg (by rfl) 24 (.tmp 5) (by rfl) (S) 6 6 (by rfl) 26 .u64 a (seg 6 6 a) _ qa0 Tryd.underlying24 rfl (by kernel_rfl) rfl (by rw [ha.len]; decide) ?_)
    | (refine load_seg (by rfl) 24 (.tmp 3) (by rfl) (S) 0 6 (by rfl) 26 .u64 a (seg 0 6 a) _ qa0 Tryd.underlying24 rfl (by kernel_rfl) rfl (by rw [ha.len]; decide) ?_))
  refine bodyPost_ret (v := .agg (vals .u64 (Fp.fe (num (seg 0 6 a) + num (seg 6 6 a))))) (results_cell_row rfl _ _ (S + 1) _ _ _ _ rfl qo2.eq Tryd.underlying24 rfl (by rw [vals_size, (Nm.fe _).len]; kernel_rfl)) rfl ⟨rfl, hb2⟩

set_option maxRecDepth 100000 in
set_option maxHeartbeats 4000000 in
theorem lXi2 (a : List Int) (ha : Nm 12 a) (w : World) (hG : Glob w) : Calls Tryd.prog 27 #[.agg (vals .u64 a)] w fun e w' => e = .returned (.agg (vals .u64 (F2 (gm (v2 a) (1, 1))))) ∧ Below w.heap.size w w' := by
  obtain ⟨S, hS⟩ : ∃ S, w.heap.size = S := ⟨_, rfl⟩
  have Lo : Keep (Z12.length = 12) := ⟨rfl⟩
  have qa0 : Has ((w.alloc (.cells (vals .u64 a) 26)).alloc (.cells (vals .u64 Z12) 26)) (S) 26 (vals .u64 a) := ((Has.new' _ hS.symm _ _).alloc _)
  have qo0 : Has ((w.alloc (.cells (vals .u64 a) 26)).alloc (.cells (vals .u64 Z12) 26)) (S + 1) 26 (vals .u64 Z12) := (Has.new' _ (by simp only [World.size_alloc, hS]) _ _)
  have hb0 : Below S w ((w.alloc (.cells (vals .u64 a) 26)).alloc (.cells (vals .u64 Z12) 26)) := by rw [← hS]; exact (((Below.refl _ _).alloc (Nat.le_refl _) _).alloc (by simp <;> omega) _)
  have hsz0 : ((w.alloc (.cells (vals .u64 a) 26)).alloc (.cells (vals .u64 Z12) 26)).heap.size = S + 2 := by simp only [World.size_alloc, hS]
  have HSS : Keep (∀ x : World, Below S w x → S ≤ x.heap.size) := ⟨fun x hb => Nat.le_trans (by omega) hb.size⟩
  have HG : Keep (∀ x : World, Below S w x → Glob x) := ⟨fun x hb => hG.keep (by rw [hS]; exact hb)⟩
  clear hG
  rw [hS]
  go_enter Tryd.func27, Tryd.ntmps27
  go_wp2
  change Code.wp _ _ _ _ (((w.alloc (.cells (vals .u64 a) 26)).alloc (.cells (vals .u64 Z12) 26)))
  obtain ⟨w0, hw0⟩ : ∃ x, ((w.alloc (.cells (vals .u64 a) 26)).alloc (.cells (vals .u64 Z12) 26)) = x := ⟨_, rfl⟩
  rw [hw0] at hb0 hsz0 qa0 qo0 ⊢
  clear hw0
  refine wp_reads 8 1 (S + 1) (by kernel_rfl) (by kernel_rfl) (by rfl) (by kernel_rfl) (fun _ _ d _ _ h => by cases d <;> exact h) ?_
  simp only [List.take_succ_cons, List.take_zero]
  repeat ((first
    | refine take_load (by rfl) 24 (by rfl) (g := S) (n := 6) (by rfl) (t := 26) (xs := a) (fun w hw => hw.has qa0 (by omega)) Tryd.underlying24 rfl (by kernel_rfl) (by rw [ha.len]; decide) ?_
    | refine take_loadw (by rfl) 26 (by rfl) (g := S) (n := 12) (by rfl) (t := 26) (xs := a) (fun w hw => hw.has qa0 (by omega)) Tryd.underlying26 rfl (by kernel_rfl) ha.len ?_
    | refine take_build (by rfl) (by rfl) (by refine build2 ?_ ?_ <;> (with_reducible first | exact Nm.fe _ | exact Nm.F2 _ | assumption | exact nm_one | exact nm_Z6 | (refine Nm.seg (m := 12) ?_ (by decide); assumption) | exact Nm.seg (m := 12) (Nm.F2 _) (by decide) | exact Nm.app2 (.fe _) (.fe _) | fail)) ?_
    | refine wpTake_cons (.inl ⟨by rfl, fun w hw => (by unfold Oper.quietAt; go_simp; (first | with_reducible refine pRed ?_ _ (HG.out _ (hb0.trans (hw.below (by first | omega | exact HSS.out _ hb0) (HSS.out _ hb0)))) | with_reducible refine pAdd ?_ ?_ _ (HG.out _ (hb0.trans (hw.below (by first | omega | exact HSS.out _ hb0) (HSS.out _ hb0)))) | with_reducible refine pSub ?_ ?_ _ (HG.out _ (hb0.trans (hw.below (by first | omega | exact HSS.out _ hb0) (HSS.out _ hb0)))) | with_reducible refine pMul ?_ ?_ _ (HG.out _ (hb0.trans (hw.below (by first | omega | exact HSS.out _ hb0) (HSS.out _ hb0)))) | with_reducible refine pNeg ?_ _ (HG.out _ (hb0.trans (hw.below (by first | omega | exact HSS.out _ hb0) (HSS.out _ hb0)))) | with_reducible refine lSum2 _ ?_ _ (HG.out _ (hb0.trans (hw.below (by first | omega | exact HSS.out _ hb0) (HSS.out _ hb0))))) <;> (with_reducible first | exact Nm.fe _ | exact Nm.F2 _ | assumption | exact nm_one | exact nm_Z6 | (refine Nm.seg (m := 12) ?_ (by decide); assumption) | exact Nm.seg (m := 12) (Nm.F2 _) (by decide) | exact Nm.app2 (.fe _) (.fe _) | fail))⟩) ?_
    | refine wpTake_cons (Steady.of_yields (Or.inl ⟨by rfl, fun w => (by first | (go_simp; done) | (go_simp; with_reducible rfl))⟩)) ?_); simp only [List.getElem_toArray, List.getElem_cons_zero, List.getElem_cons_succ, Act.put, List.setIfInBounds_toArray, List.set_cons_zero, List.set_cons_succ])
  refine wpTake_nil ?_
  refine tail_store (i := 8) (by rfl) (by kernel_rfl) (by kernel_rfl) (by rfl) 26 (.tmp 2) (.tmp 10) (by rfl) (by rfl) (S + 1) _ (by rfl) (by rfl) 26 _ qo0 (by rw [vals_size, (Nm.app (.fe _) (.fe _)).len]; kernel_rfl) (by rw [vals_size, vals_size, (Nm.app (.fe _) (.fe _)).len]; rfl) vals_one ?_
  intro w1 qo1 hbt
  have qa1 := hbt.has qa0 (by omega)
  have hb1 := hb0.trans (hbt.below (by omega) (HSS.out _ hb0))
  clear hbt hb0 qa0 qo0
  go_wp2
  refine bodyPost_ret (v := .agg (vals .u64 _)) (results_cell_row rfl _ _ (S + 1) _ _ _ _ rfl qo1.eq Tryd.underlying26 rfl (by rw [vals_size, (Nm.app (.fe _) (.fe _)).len]; kernel_rfl)) rfl ⟨ret_eq (congrArg (fun z => Value.agg (vals .u64 z)) (xi_v a)), hb1⟩

set_option maxRecDepth 100000 in
set_option maxHeartbeats 4000000 in
theorem lSquare2 (a : List Int) (ha : Nm 12 a) (w : World) (hG : Glob w) : Calls Tryd.prog 47 #[.agg (vals .u64 a)] w fun e w' => e = .returned (.agg (vals .u64 (F2 (gm (v2 a) (v2 a))))) ∧ Below w.heap.size w w' := by
  obtain ⟨S, hS⟩ : ∃ S, w.heap.size = S := ⟨_, rfl⟩
  have Lo : Keep (Z12.length = 12) := ⟨rfl⟩
  have qa0 : Has ((w.alloc (.cells (vals .u64 a) 26)).alloc (.cells (vals .u64 Z12) 26)) (S) 26 (vals .u64 a) := ((Has.new' _ hS.symm _ _).alloc _)
  have qo0 : Has ((w.alloc (.cells (vals .u64 a) 26)).alloc (.cells (vals .u64 Z12) 26)) (S + 1) 26 (vals .u64 Z12) := (Has.new' _ (by simp only [World.size_alloc, hS]) _ _)
  have hb0 : Below S w ((w.alloc (.cells (vals .u64 a) 26)).alloc (.cells (vals .u64 Z12) 26)) := by rw [← hS]; exact (((Below.refl _ _).alloc (Nat.le_refl _) _).alloc (by simp <;> omega) _)
  have hsz0 : ((w.alloc (.cells (vals .u64 a) 26)).alloc (.cells (vals .u64 Z12) 26)).heap.size = S + 2 := by simp only [World.size_alloc, hS]
  have HSS : Keep (∀ x : World, Below S w x → S ≤ x.heap.size) := ⟨fun x hb => Nat.le_trans (by omega) hb.size⟩
  have HG : Keep (∀ x : World, Below S w x → Glob x) := ⟨fun x hb => hG.keep (by rw [hS]; exact hb)⟩
  clear hG
  rw [hS]
  go_enter Tryd.func47, Tryd.ntmps47
  go_wp2_with (first
    | (refine store_abs2 (by rfl) 24 (.tmp 3) (.tmp 8) (by rfl) (by rfl) (w1.heap.size) (vals .u64 (Fp.fe (num (seg 0 6 a) * num (seg 6 6 a)))) (by rfl) (by rfl) 24 (vals .u64 Z6) (Has.new' _ rfl _ _) (by rw [vals_size, (Nm.fe _).len]; kernel_rfl) (by rw [vals_size, vals_size, (Nm.fe _).len]; rfl) vals_one ?_
       intro w2 qh2 hkeep hbg
       have hbe := ((Below.refl w1.heap.size w1).alloc (Nat.le_refl _) (.cells (vals .u64 Z6) 24)).trans hbg
       have Nah := qa1.lt
       have qa2 := qa1.keep hbe
       have Noh := qo1.lt
       have qo2 := qo1.keep hbe
       have Mh : S ≤ w1.heap.size := HSS.out _ hb1
       have hb2 := hb1.trans (hbe.mono Mh)
       clear hkeep hbg hbe hb1 qa1 qo1)
    | (have hq0 := hb0
       clear hq0
       go_at_call 49
       refine (pMul (x := seg 0 6 a) (y := seg 6 6 a) (ha.seg (by decide)) (ha.seg (by decide)) _ (HG.out _ hb0)).mono ?_
       rintro e w1 ⟨rfl, hq⟩
       have qa1 := qa0.keep hq
       have qo1 := qo0.keep hq
       have hb1 := hb0.trans (hq.mono (HSS.out _ hb0))
       clear hq hb0 qa0 qo0)
    | (refine load_seg (by rfl) 24 (.tmp 6) (by rfl) (S) 6 6 (by rfl) 26 .u64 a (seg 6 6 a) _ qa0 Tryd.underlying24 rfl (by kernel_rfl) rfl (by rw [ha.len]; decide) ?_)
    | (refine load_seg (by rfl) 24 (.tmp 4) (by rfl) (S) 0 6 (by rfl) 26 .u64 a (seg 0 6 a) _ qa0 Tryd.underlying24 rfl (by kernel_rfl) rfl (by rw [ha.len]; decide) ?_))
  refine wp_reads 12 1 (S + 1) (by kernel_rfl) (by kernel_rfl) (by rfl) (by kernel_rfl) (fun _ _ d _ _ h => by cases d <;> exact h) ?_
  simp only [List.take_succ_cons, List.take_zero]
  repeat ((first
    | refine take_load (by rfl) 24 (by rfl) (g := S) (n := 6) (by rfl) (t := 26) (xs := a) (fun w hw => hw.has qa2 (by omega)) Tryd.underlying24 rfl (by kernel_rfl) (by rw [ha.len]; decide) ?_
    | refine take_loadw (by rfl) 26 (by rfl) (g := S) (n := 12) (by rfl) (t := 26) (xs := a) (fun w hw => hw.has qa2 (by omega)) Tryd.underlying26 rfl (by kernel_rfl) ha.len ?_
    | refine take_loadw (by rfl) 24 (by rfl) (g := w1.heap.size) (n := 6) (by rfl) (t := 24) (xs := (Fp.fe (num (seg 0 6 a) * num (seg 6 6 a)))) (fun w hw => hw.has qh2 (by omega)) Tryd.underlying24 rfl (by kernel_rfl) (Nm.fe _).len ?_
    | refine take_build (by rfl) (by rfl) (by refine build2 ?_ ?_ <;> (with_reducible first | exact Nm.fe _ | exact Nm.F2 _ | assumption | exact nm_one | exact nm_Z6 | (refine Nm.seg (m := 12) ?_ (by decide); assumption) | exact Nm.seg (m := 12) (Nm.F2 _) (by decide) | exact Nm.app2 (.fe _) (.fe _) | fail)) ?_
    | refine wpTake_cons (.inl ⟨by rfl, fun w hw => (by unfold Oper.quietAt; go_simp; (first | with_reducible refine pRed ?_ _ (HG.out _ (hb2.trans (hw.below (by first | omega | exact HSS.out _ hb2) (HSS.out _ hb2)))) | with_reducible refine pAdd ?_ ?_ _ (HG.out _ (hb2.trans (hw.below (by first | omega | exact HSS.out _ hb2) (HSS.out _ hb2)))) | with_reducible refine pSub ?_ ?_ _ (HG.out _ (hb2.trans (hw.below (by first | omega | exact HSS.out _ hb2) (HSS.out _ hb2)))) | with_reducible refine pMul ?_ ?_ _ (HG.out _ (hb2.trans (hw.below (by first | omega | exact HSS.out _ hb2) (HSS.out _ hb2)))) | with_reducible refine pNeg ?_ _ (HG.out _ (hb2.trans (hw.below (by first | omega | exact HSS.out _ hb2) (HSS.out _ hb2)))) | with_reducible refine lSum2 _ ?_ _ (HG.out _ (hb2.trans (hw.below (by first | omega | exact HSS.out _ hb2) (HSS.out _ hb2))))) <;> (with_reducible first | exact Nm.fe _ | exact Nm.F2 _ | assumption | exact nm_one | exact nm_Z6 | (refine Nm.seg (m := 12) ?_ (by decide); assumption) | exact Nm.seg (m := 12) (Nm.F2 _) (by decide) | exact Nm.app2 (.fe _) (.fe _) | fail))⟩) ?_
    | refine wpTake_cons (Steady.of_yields (Or.inl ⟨by rfl, fun w => (by first | (go_simp; done) | (go_simp; with_reducible rfl))⟩)) ?_); simp only [List.getElem_toArray, List.getElem_cons_zero, List.getElem_cons_succ, Act.put, List.setIfInBounds_toArray, List.set_cons_zero, List.set_cons_succ])
  refine wpTake_nil ?_
  refine tail_store (i := 12) (by rfl) (by kernel_rfl) (by kernel_rfl) (by rfl) 26 (.tmp 2) (.tmp 20) (by rfl) (by rfl) (S + 1) _ (by rfl) (by rfl) 26 _ qo2 (by rw [vals_size, (Nm.app (.fe _) (.fe _)).len]; kernel_rfl) (by rw [vals_size, vals_size, (Nm.app (.fe _) (.fe _)).len]; rfl) vals_one ?_
  intro w3 qo3 hbt
  have qa3 := hbt.has qa2 (by omega)
  have qh3 := hbt.has qh2 (by omega)
  have hb3 := hb2.trans (hbt.below (by omega) (HSS.out _ hb2))
  clear hbt hb2 qa2 qo2 qh2
  go_wp2
  refine bodyPost_ret (v := .agg (vals .u64 _)) (results_cell_row rfl _ _ (S + 1) _ _ _ _ rfl qo3.eq Tryd.underlying26 rfl (by rw [vals_size, (Nm.app (.fe _) (.fe _)).len]; kernel_rfl)) rfl ⟨ret_eq (congrArg (fun z => Value.agg (vals .u64 z)) (square_v a)), hb3⟩

set_option maxRecDepth 100000 in
set_option maxHeartbeats 4000000 in
theorem prodA (a : List Int) (ha : Nm 12 a) (b : List Int) (hb : Nm 12 b) (ka kb : Nat) (w : World) (hG : Glob w) (qa : Has w ka 26 (vals .u64 a)) (qb : Has w kb 26 (vals .u64 b)) : Calls Tryd.prog 48 #[.func (.func 50) #[] #[], .pointer (some ⟨ka, 0, none⟩), .pointer (some ⟨kb, 0, none⟩)] w fun e w' => e = .returned (.agg (vals .u64 (Fp.fe (num (seg 0 6 a) * num (seg 0 6 b))))) ∧ Below w.heap.size w w' := by
  obtain ⟨S, hS⟩ : ∃ S, w.heap.size = S := ⟨_, rfl⟩
  have Lo : Keep (Z6.length = 6) := ⟨rfl⟩
  have qo0 : Has (w.alloc (.cells (vals .u64 Z6) 24)) (S) 24 (vals .u64 Z6) := (Has.new' _ hS.symm _ _)
  have hb0 : Below S w (w.alloc (.cells (vals .u64 Z6) 24)) := by rw [← hS]; exact ((Below.refl _ _).alloc (Nat.le_refl _) _)
  have hsz0 : (w.alloc (.cells (vals .u64 Z6) 24)).heap.size = S + 1 := by simp only [World.size_alloc, hS]
  have HSS : Keep (∀ x : World, Below S w x → S ≤ x.heap.size) := ⟨fun x hb => Nat.le_trans (by omega) hb.size⟩
  have HG : Keep (∀ x : World, Below S w x → Glob x) := ⟨fun x hb => hG.keep (by rw [hS]; exact hb)⟩
  clear hG
  have qa0 : Has (w.alloc (.cells (vals .u64 Z6) 24)) ka 26 (vals .u64 a) := qa.alloc _
  have Oa : ka < S := hS ▸ qa.lt
  have qb0 : Has (w.alloc (.cells (vals .u64 Z6) 24)) kb 26 (vals .u64 b) := qb.alloc _
  have Ob : kb < S := hS ▸ qb.lt
  clear qa qb
  rw [hS]
  go_enter Tryd.func48, Tryd.ntmps48
  go_wp2
  change Code.wp _ _ _ _ ((w.alloc (.cells (vals .u64 Z6) 24)))
  obtain ⟨w0, hw0⟩ : ∃ x, (w.alloc (.cells (vals .u64 Z6) 24)) = x := ⟨_, rfl⟩
  rw [hw0] at hb0 hsz0 qo0 qa0 qb0 ⊢
  clear hw0
  refine wp_reads 7 1 S (by kernel_rfl) (by kernel_rfl) (by rfl) (by kernel_rfl) (fun _ _ d _ _ h => by cases d <;> exact h) ?_
  simp only [List.take_succ_cons, List.take_zero]
  repeat ((first
    | refine take_load (by rfl) 24 (by rfl) (g := ka) (n := 6) (by rfl) (t := 26) (xs := a) (fun w hw => hw.has qa0 (by omega)) Tryd.underlying24 rfl (by kernel_rfl) (by rw [ha.len]; decide) ?_
    | refine take_loadw (by rfl) 26 (by rfl) (g := ka) (n := 12) (by rfl) (t := 26) (xs := a) (fun w hw => hw.has qa0 (by omega)) Tryd.underlying26 rfl (by kernel_rfl) ha.len ?_
    | refine take_load (by rfl) 24 (by rfl) (g := kb) (n := 6) (by rfl) (t := 26) (xs := b) (fun w hw => hw.has qb0 (by omega)) Tryd.underlying24 rfl (by kernel_rfl) (by rw [hb.len]; decide) ?_
    | refine take_loadw (by rfl) 26 (by rfl) (g := kb) (n := 12) (by rfl) (t := 26) (xs := b) (fun w hw => hw.has qb0 (by omega)) Tryd.underlying26 rfl (by kernel_rfl) hb.len ?_
    | refine wpTake_cons (.inl ⟨by rfl, fun w hw => (by unfold Oper.quietAt; go_simp; (first | with_reducible refine pRed ?_ _ (HG.out _ (hb0.trans (hw.below (by first | omega | exact HSS.out _ hb0) (HSS.out _ hb0)))) | with_reducible refine pAdd ?_ ?_ _ (HG.out _ (hb0.trans (hw.below (by first | omega | exact HSS.out _ hb0) (HSS.out _ hb0)))) | with_reducible refine pSub ?_ ?_ _ (HG.out _ (hb0.trans (hw.below (by first | omega | exact HSS.out _ hb0) (HSS.out _ hb0)))) | with_reducible refine pMul ?_ ?_ _ (HG.out _ (hb0.trans (hw.below (by first | omega | exact HSS.out _ hb0) (HSS.out _ hb0)))) | with_reducible refine pNeg ?_ _ (HG.out _ (hb0.trans (hw.below (by first | omega | exact HSS.out _ hb0) (HSS.out _ hb0)))) | with_reducible refine lPartA _ ?_ _) <;> (with_reducible first | exact Nm.fe _ | exact Nm.F2 _ | assumption | exact nm_one | exact nm_Z6 | (refine Nm.seg (m := 12) ?_ (by decide); assumption) | exact Nm.seg (m := 12) (Nm.F2 _) (by decide) | exact Nm.app2 (.fe _) (.fe _) | fail))⟩) ?_
    | refine wpTake_cons (Steady.of_yields (Or.inl ⟨by rfl, fun w => (by first | (go_simp; done) | (go_simp; with_reducible rfl))⟩)) ?_); simp only [List.getElem_toArray, List.getElem_cons_zero, List.getElem_cons_succ, Act.put, List.setIfInBounds_toArray, List.set_cons_zero, List.set_cons_succ])
  refine wpTake_nil ?_
  refine tail_store (i := 7) (by rfl) (by kernel_rfl) (by kernel_rfl) (by rfl) 24 (.tmp 4) (.tmp 11) (by rfl) (by rfl) (S) _ (by rfl) (by rfl) 24 _ qo0 (by rw [vals_size, (Nm.fe _).len]; kernel_rfl) (by rw [vals_size, vals_size, (Nm.fe _).len]; rfl) vals_one ?_
  intro w1 qo1 hbt
  have qa1 := hbt.has qa0 (by omega)
  have qb1 := hbt.has qb0 (by omega)
  have hb1 := hb0.trans (hbt.below (by omega) (HSS.out _ hb0))
  clear hbt hb0 qo0 qa0 qb0
  go_wp2
  refine bodyPost_ret (v := .agg (vals .u64 _)) (results_cell_row rfl _ _ (S) _ _ _ _ rfl qo1.eq Tryd.underlying24 rfl (by rw [vals_size, (Nm.fe _).len]; kernel_rfl)) rfl ⟨rfl, hb1⟩

set_option maxRecDepth 100000 in
set_option maxHeartbeats 4000000 in
theorem prodB (a : List Int) (ha : Nm 12 a) (b : List Int) (hb : Nm 12 b) (ka kb : Nat) (w : World) (hG : Glob w) (qa : Has w ka 26 (vals .u64 a)) (qb : Has w kb 26 (vals .u64 b)) : Calls Tryd.prog 48 #[.func (.func 51) #[] #[], .pointer (some ⟨ka, 0, none⟩), .pointer (some ⟨kb, 0, none⟩)] w fun e w' => e = .returned (.agg (vals .u64 (Fp.fe (num (seg 6 6 a) * num (seg 6 6 b))))) ∧ Below w.heap.size w w' := by
  obtain ⟨S, hS⟩ : ∃ S, w.heap.size = S := ⟨_, rfl⟩
  have Lo : Keep (Z6.length = 6) := ⟨rfl⟩
  have qo0 : Has (w.alloc (.cells (vals .u64 Z6) 24)) (S) 24 (vals .u64 Z6) := (Has.new' _ hS.symm _ _)
  have hb0 : Below S w (w.alloc (.cells (vals .u64 Z6) 24)) := by rw [← hS]; exact ((Below.refl _ _).alloc (Nat.le_refl _) _)
  have hsz0 : (w.alloc (.cells (vals .u64 Z6) 24)).heap.size = S + 1 := by simp only [World.size_alloc, hS]
  have HSS : Keep (∀ x : World, Below S w x → S ≤ x.heap.size) := ⟨fun x hb => Nat.le_trans (by omega) hb.size⟩
  have HG : Keep (∀ x : World, Below S w x → Glob x) := ⟨fun x hb => hG.keep (by rw [hS]; exact hb)⟩
  clear hG
  have qa0 : Has (w.alloc (.cells (vals .u64 Z6) 24)) ka 26 (vals .u64 a) := qa.alloc _
  have Oa : ka < S := hS ▸ qa.lt
  have qb0 : Has (w.alloc (.cells (vals .u64 Z6) 24)) kb 26 (vals .u64 b) := qb.alloc _
  have Ob : kb < S := hS ▸ qb.lt
  clear qa qb
  rw [hS]
  go_enter Tryd.func48, Tryd.ntmps48
  go_wp2
  change Code.wp _ _ _ _ ((w.alloc (.cells (vals .u64 Z6) 24)))
  obtain ⟨w0, hw0⟩ : ∃ x, (w.alloc (.cells (vals .u64 Z6) 24)) = x := ⟨_, rfl⟩
  rw [hw0] at hb0 hsz0 qo0 qa0 qb0 ⊢
  clear hw0
  refine wp_reads 7 1 S (by kernel_rfl) (by kernel_rfl) (by rfl) (by kernel_rfl) (fun _ _ d _ _ h => by cases d <;> exact h) ?_
  simp only [List.take_succ_cons, List.take_zero]
  repeat ((first
    | refine take_load (by rfl) 24 (by rfl) (g := ka) (n := 6) (by rfl) (t := 26) (xs := a) (fun w hw => hw.has qa0 (by omega)) Tryd.underlying24 rfl (by kernel_rfl) (by rw [ha.len]; decide) ?_
    | refine take_loadw (by rfl) 26 (by rfl) (g := ka) (n := 12) (by rfl) (t := 26) (xs := a) (fun w hw => hw.has qa0 (by omega)) Tryd.underlying26 rfl (by kernel_rfl) ha.len ?_
    | refine take_load (by rfl) 24 (by rfl) (g := kb) (n := 6) (by rfl) (t := 26) (xs := b) (fun w hw => hw.has qb0 (by omega)) Tryd.underlying24 rfl (by kernel_rfl) (by rw [hb.len]; decide) ?_
    | refine take_loadw (by rfl) 26 (by rfl) (g := kb) (n := 12) (by rfl) (t := 26) (xs := b) (fun w hw => hw.has qb0 (by omega)) Tryd.underlying26 rfl (by kernel_rfl) hb.len ?_
    | refine wpTake_cons (.inl ⟨by rfl, fun w hw => (by unfold Oper.quietAt; go_simp; (first | with_reducible refine pRed ?_ _ (HG.out _ (hb0.trans (hw.below (by first | omega | exact HSS.out _ hb0) (HSS.out _ hb0)))) | with_reducible refine pAdd ?_ ?_ _ (HG.out _ (hb0.trans (hw.below (by first | omega | exact HSS.out _ hb0) (HSS.out _ hb0)))) | with_reducible refine pSub ?_ ?_ _ (HG.out _ (hb0.trans (hw.below (by first | omega | exact HSS.out _ hb0) (HSS.out _ hb0)))) | with_reducible refine pMul ?_ ?_ _ (HG.out _ (hb0.trans (hw.below (by first | omega | exact HSS.out _ hb0) (HSS.out _ hb0)))) | with_reducible refine pNeg ?_ _ (HG.out _ (hb0.trans (hw.below (by first | omega | exact HSS.out _ hb0) (HSS.out _ hb0)))) | with_reducible refine lPartB _ ?_ _) <;> (with_reducible first | exact Nm.fe _ | exact Nm.F2 _ | assumption | exact nm_one | exact nm_Z6 | (refine Nm.seg (m := 12) ?_ (by decide); assumption) | exact Nm.seg (m := 12) (Nm.F2 _) (by decide) | exact Nm.app2 (.fe _) (.fe _) | fail))⟩) ?_
    | refine wpTake_cons (Steady.of_yields (Or.inl ⟨by rfl, fun w => (by first | (go_simp; done) | (go_simp; with_reducible rfl))⟩)) ?_); simp only [List.getElem_toArray, List.getElem_cons_zero, List.getElem_cons_succ, Act.put, List.setIfInBounds_toArray, List.set_cons_zero, List.set_cons_succ])
  refine wpTake_nil ?_
  refine tail_store (i := 7) (by rfl) (by kernel_rfl) (by kernel_rfl) (by rfl) 24 (.tmp 4) (.tmp 11) (by rfl) (by rfl) (S) _ (by rfl) (by rfl) 24 _ qo0 (by rw [vals_size, (Nm.fe _).len]; kernel_rfl) (by rw [vals_size, vals_size, (Nm.fe _).len]; rfl) vals_one ?_
  intro w1 qo1 hbt
  have qa1 := hbt.has qa0 (by omega)
  have qb1 := hbt.has qb0 (by omega)
  have hb1 := hb0.trans (hbt.below (by omega) (HSS.out _ hb0))
  clear hbt hb0 qo0 qa0 qb0
  go_wp2
  refine bodyPost_ret (v := .agg (vals .u64 _)) (results_cell_row rfl _ _ (S) _ _ _ _ rfl qo1.eq Tryd.underlying24 rfl (by rw [vals_size, (Nm.fe _).len]; kernel_rfl)) rfl ⟨rfl, hb1⟩

set_option maxRecDepth 100000 in
set_option maxHeartbeats 4000000 in
theorem prodS (a : List Int) (ha : Nm 12 a) (b : List Int) (hb : Nm 12 b) (ka kb : Nat) (w : World) (hG : Glob w) (qa : Has w ka 26 (vals .u64 a)) (qb : Has w kb 26 (vals .u64 b)) : Calls Tryd.prog 48 #[.func (.func 44) #[] #[], .pointer (some ⟨ka, 0, none⟩), .pointer (some ⟨kb, 0, none⟩)] w fun e w' => e = .returned (.agg (vals .u64 (Fp.fe (num (Fp.fe (num (seg 0 6 a) + num (seg 6 6 a))) * num (Fp.fe (num (seg 0 6 b) + num (seg 6 6 b))))))) ∧ Below w.heap.size w w' := by
  obtain ⟨S, hS⟩ : ∃ S, w.heap.size = S := ⟨_, rfl⟩
  have Lo : Keep (Z6.length = 6) := ⟨rfl⟩
  have qo0 : Has (w.alloc (.cells (vals .u64 Z6) 24)) (S) 24 (vals .u64 Z6) := (Has.new' _ hS.symm _ _)
  have hb0 : Below S w (w.alloc (.cells (vals .u64 Z6) 24)) := by rw [← hS]; exact ((Below.refl _ _).alloc (Nat.le_refl _) _)
  have hsz0 : (w.alloc (.cells (vals .u64 Z6) 24)).heap.size = S + 1 := by simp only [World.size_alloc, hS]
  have HSS : Keep (∀ x : World, Below S w x → S ≤ x.heap.size) := ⟨fun x hb => Nat.le_trans (by omega) hb.size⟩
  have HG : Keep (∀ x : World, Below S w x → Glob x) := ⟨fun x hb => hG.keep (by rw [hS]; exact hb)⟩
  clear hG
  have qa0 : Has (w.alloc (.cells (vals .u64 Z6) 24)) ka 26 (vals .u64 a) := qa.alloc _
  have Oa : ka < S := hS ▸ qa.lt
  have qb0 : Has (w.alloc (.cells (vals .u64 Z6) 24)) kb 26 (vals .u64 b) := qb.alloc _
  have Ob : kb < S := hS ▸ qb.lt
  clear qa qb
  rw [hS]
  go_enter Tryd.func48, Tryd.ntmps48
  go_wp2
  change Code.wp _ _ _ _ ((w.alloc (.cells (vals .u64 Z6) 24)))
  obtain ⟨w0, hw0⟩ : ∃ x, (w.alloc (.cells (vals .u64 Z6) 24)) = x := ⟨_, rfl⟩
  rw [hw0] at hb0 hsz0 qo0 qa0 qb0 ⊢
  clear hw0
  refine wp_reads 7 1 S (by kernel_rfl) (by kernel_rfl) (by rfl) (by kernel_rfl) (fun _ _ d _ _ h => by cases d <;> exact h) ?_
  simp only [List.take_succ_cons, List.take_zero]
  repeat ((first
    | refine take_load (by rfl) 24 (by rfl) (g := ka) (n := 6) (by rfl) (t := 26) (xs := a) (fun w hw => hw.has qa0 (by omega)) Tryd.underlying24 rfl (by kernel_rfl) (by rw [ha.len]; decide) ?_
    | refine take_loadw (by rfl) 26 (by rfl) (g := ka) (n := 12) (by rfl) (t := 26) (xs := a) (fun w hw => hw.has qa0 (by omega)) Tryd.underlying26 rfl (by kernel_rfl) ha.len ?_
    | refine take_load (by rfl) 24 (by rfl) (g := kb) (n := 6) (by rfl) (t := 26) (xs := b) (fun w hw => hw.has qb0 (by omega)) Tryd.underlying24 rfl (by kernel_rfl) (by rw [hb.len]; decide) ?_
    | refine take_loadw (by rfl) 26 (by rfl) (g := kb) (n := 12) (by rfl) (t := 26) (xs := b) (fun w hw => hw.has qb0 (by omega)) Tryd.underlying26 rfl (by kernel_rfl) hb.len ?_
    | refine wpTake_cons (.inl ⟨by rfl, fun w hw => (by unfold Oper.quietAt; go_simp; (first | with_reducible refine pRed ?_ _ (HG.out _ (hb0.trans (hw.below (by first | omega | exact HSS.out _ hb0) (HSS.out _ hb0)))) | with_reducible refine pAdd ?_ ?_ _ (HG.out _ (hb0.trans (hw.below (by first | omega | exact HSS.out _ hb0) (HSS.out _ hb0)))) | with_reducible refine pSub ?_ ?_ _ (HG.out _ (hb0.trans (hw.below (by first | omega | exact HSS.out _ hb0) (HSS.out _ hb0)))) | with_reducible refine pMul ?_ ?_ _ (HG.out _ (hb0.trans (hw.below (by first | omega | exact HSS.out _ hb0) (HSS.out _ hb0)))) | with_reducible refine pNeg ?_ _ (HG.out _ (hb0.trans (hw.below (by first | omega | exact HSS.out _ hb0) (HSS.out _ hb0)))) | with_reducible refine lSum2 _ ?_ _ (HG.out _ (hb0.trans (hw.below (by first | omega | exact HSS.out _ hb0) (HSS.out _ hb0))))) <;> (with_reducible first | exact Nm.fe _ | exact Nm.F2 _ | assumption | exact nm_one | exact nm_Z6 | (refine Nm.seg (m := 12) ?_ (by decide); assumption) | exact Nm.seg (m := 12) (Nm.F2 _) (by decide) | exact Nm.app2 (.fe _) (.fe _) | fail))⟩) ?_
    | refine wpTake_cons (Steady.of_yields (Or.inl ⟨by rfl, fun w => (by first | (go_simp; done) | (go_simp; with_reducible rfl))⟩)) ?_); simp only [List.getElem_toArray, List.getElem_cons_zero, List.getElem_cons_succ, Act.put, List.setIfInBounds_toArray, List.set_cons_zero, List.set_cons_succ])
  refine wpTake_nil ?_
  refine tail_store (i := 7) (by rfl) (by kernel_rfl) (by kernel_rfl) (by rfl) 24 (.tmp 4) (.tmp 11) (by rfl) (by rfl) (S) _ (by rfl) (by rfl) 24 _ qo0 (by rw [vals_size, (Nm.fe _).len]; kernel_rfl) (by rw [vals_size, vals_size, (Nm.fe _).len]; rfl) vals_one ?_
  intro w1 qo1 hbt
  have qa1 := hbt.has qa0 (by omega)
  have qb1 := hbt.has qb0 (by omega)
  have hb1 := hb0.trans (hbt.below (by omega) (HSS.out _ hb0))
  clear hbt hb0 qo0 qa0 qb0
  go_wp2
  refine bodyPost_ret (v := .agg (vals .u64 _)) (results_cell_row rfl _ _ (S) _ _ _ _ rfl qo1.eq Tryd.underlying24 rfl (by rw [vals_size, (Nm.fe _).len]; kernel_rfl)) rfl ⟨rfl, hb1⟩

set_option maxRecDepth 100000 in
set_option maxHeartbeats 4000000 in
theorem mul_same (a : List Int) (ha : Nm 12 a) (w : World) (hG : Glob w) : Calls Tryd.prog 30 #[.agg (vals .u64 a), .agg (vals .u64 a)] w fun e w' => e = .returned (.agg (vals .u64 (F2 (gm (v2 a) (v2 a))))) ∧ Below w.heap.size w w' := by
  obtain ⟨S, hS⟩ : ∃ S, w.heap.size = S := ⟨_, rfl⟩
  have Lo : Keep (Z12.length = 12) := ⟨rfl⟩
  have qa0 : Has (((w.alloc (.cells (vals .u64 a) 26)).alloc (.cells (vals .u64 a) 26)).alloc (.cells (vals .u64 Z12) 26)) (S) 26 (vals .u64 a) := (((Has.new' _ hS.symm _ _).alloc _).alloc _)
  have qb0 : Has (((w.alloc (.cells (vals .u64 a) 26)).alloc (.cells (vals .u64 a) 26)).alloc (.cells (vals .u64 Z12) 26)) (S + 1) 26 (vals .u64 a) := ((Has.new' _ (by simp only [World.size_alloc, hS]) _ _).alloc _)
  have qo0 : Has (((w.alloc (.cells (vals .u64 a) 26)).alloc (.cells (vals .u64 a) 26)).alloc (.cells (vals .u64 Z12) 26)) (S + 2) 26 (vals .u64 Z12) := (Has.new' _ (by simp only [World.size_alloc, hS]) _ _)
  have hb0 : Below S w (((w.alloc (.cells (vals .u64 a) 26)).alloc (.cells (vals .u64 a) 26)).alloc (.cells (vals .u64 Z12) 26)) := by rw [← hS]; exact ((((Below.refl _ _).alloc (Nat.le_refl _) _).alloc (by simp <;> omega) _).alloc (by simp <;> omega) _)
  have hsz0 : (((w.alloc (.cells (vals .u64 a) 26)).alloc (.cells (vals .u64 a) 26)).alloc (.cells (vals .u64 Z12) 26)).heap.size = S + 3 := by simp only [World.size_alloc, hS]
  have HSS : Keep (∀ x : World, Below S w x → S ≤ x.heap.size) := ⟨fun x hb => Nat.le_trans (by omega) hb.size⟩
  have HG : Keep (∀ x : World, Below S w x → Glob x) := ⟨fun x hb => hG.keep (by rw [hS]; exact hb)⟩
  clear hG
  have hgd := gd2
  have E1 := eq12 a ha.len
  rw [hS]
  go_enter Tryd.func30, Tryd.ntmps30
  go_wp2_with (first
    | (refine store_abs2 (by rfl) 26 (.tmp 4) (.tmp 13) (by rfl) (by rfl) (S + 2) (vals .u64 (F2 (gm (v2 a) (v2 a)))) (by rfl) (by rfl) 26 _ qo1 (by rw [vals_size, (Nm.F2 _).len]; kernel_rfl) (by rw [vals_size, vals_size, (Nm.F2 _).len, Lo.out]) vals_one ?_
       intro w2 qo2 hkeep hbg
       have qa2 := hkeep _ _ _ qa1 (by omega)
       have qb2 := hkeep _ _ _ qb1 (by omega)
       have hb2 := hb1.trans (hbg.mono (by omega))
       clear hkeep hbg hb1 qa1 qb1 qo1)
    | (have hq0 := hb0
       clear hq0
       go_at_call 47
       refine (lSquare2 a ha _ (HG.out _ hb0)).mono ?_
       rintro e w1 ⟨rfl, hq⟩
       have qa1 := qa0.keep hq
       have qb1 := qb0.keep hq
       have qo1 := qo0.keep hq
       have hb1 := hb0.trans (hq.mono (HSS.out _ hb0))
       clear hq hb0 qa0 qb0 qo0)
    | (refine wpList_load_row rfl 26 (.tmp 2) rfl (S) rfl _ _ _ _ qa0.eq Tryd.underlying26 rfl (by rw [vals_size, ha.len]; kernel_rfl) ?_)
    | (refine wpList_load_row rfl 26 (.tmp 3) rfl (S + 1) rfl _ _ _ _ qb0.eq Tryd.underlying26 rfl (by rw [vals_size, ha.len]; kernel_rfl) ?_)
    | (refine wpList_load_row rfl 26 (.tmp 2) rfl (S) rfl _ _ _ _ qa0.eq Tryd.underlying26 rfl (by rw [vals_size, ha.len]; kernel_rfl) ?_))
  refine bodyPost_ret (v := .agg (vals .u64 _)) (results_cell_row rfl _ _ (S + 2) _ _ _ _ rfl qo2.eq Tryd.underlying26 rfl (by rw [vals_size, (Nm.F2 _).len]; kernel_rfl)) rfl ⟨rfl, hb2⟩

set_option maxRecDepth 100000 in
set_option maxHeartbeats 4000000 in
theorem mul_apart (a : List Int) (ha : Nm 12 a) (b : List Int) (hb : Nm 12 b) (hne : a ≠ b) (w : World) (hG : Glob w) : Calls Tryd.prog 30 #[.agg (vals .u64 a), .agg (vals .u64 b)] w fun e w' => e = .returned (.agg (vals .u64 (F2 (gm (v2 a) (v2 b))))) ∧ Below w.heap.size w w' := by
  obtain ⟨S, hS⟩ : ∃ S, w.heap.size = S := ⟨_, rfl⟩
  have Lo : Keep (Z12.length = 12) := ⟨rfl⟩
  have qa0 : Has (((w.alloc (.cells (vals .u64 a) 26)).alloc (.cells (vals .u64 b) 26)).alloc (.cells (vals .u64 Z12) 26)) (S) 26 (vals .u64 a) := (((Has.new' _ hS.symm _ _).alloc _).alloc _)
  have qb0 : Has (((w.alloc (.cells (vals .u64 a) 26)).alloc (.cells (vals .u64 b) 26)).alloc (.cells (vals .u64 Z12) 26)) (S + 1) 26 (vals .u64 b) := ((Has.new' _ (by simp only [World.size_alloc, hS]) _ _).alloc _)
  have qo0 : Has (((w.alloc (.cells (vals .u64 a) 26)).alloc (.cells (vals .u64 b) 26)).alloc (.cells (vals .u64 Z12) 26)) (S + 2) 26 (vals .u64 Z12) := (Has.new' _ (by simp only [World.size_alloc, hS]) _ _)
  have hb0 : Below S w (((w.alloc (.cells (vals .u64 a) 26)).alloc (.cells (vals .u64 b) 26)).alloc (.cells (vals .u64 Z12) 26)) := by rw [← hS]; exact ((((Below.refl _ _).alloc (Nat.le_refl _) _).alloc (by simp <;> omega) _).alloc (by simp <;> omega) _)
  have hsz0 : (((w.alloc (.cells (vals .u64 a) 26)).alloc (.cells (vals .u64 b) 26)).alloc (.cells (vals .u64 Z12) 26)).heap.size = S + 3 := by simp only [World.size_alloc, hS]
  have HSS : Keep (∀ x : World, Below S w x → S ≤ x.heap.size) := ⟨fun x hb => Nat.le_trans (by omega) hb.size⟩
  have HG : Keep (∀ x : World, Below S w x → Glob x) := ⟨fun x hb => hG.keep (by rw [hS]; exact hb)⟩
  clear hG
  have hgd := gd2
  have E1 := neq12 ha.len hb.len hne
  have hmf : ∀ (fn : Fn) (first cap : Array Value) (w : World), (Instr.makeFunc fn first cap).run Tryd.prog w = .ok (.func fn first cap) w := fun _ _ _ _ => rfl
  clear hne
  rw [hS]
  go_enter Tryd.func30, Tryd.ntmps30
  go_wp2_with (first
    | (refine store_abs2 (by rfl) 24 (.tmp 8) (.tmp 20) (by rfl) (by rfl) (w5.heap.size) (vals .u64 (Fp.fe (num (Fp.fe (num (seg 0 6 a) + num (seg 6 6 a))) * num (Fp.fe (num (seg 0 6 b) + num (seg 6 6 b)))))) (by rfl) (by rfl) 24 (vals .u64 Z6) (Has.new' _ rfl _ _) (by rw [vals_size, (Nm.fe _).len]; kernel_rfl) (by rw [vals_size, vals_size, (Nm.fe _).len]; rfl) vals_one ?_
       intro w6 qz6 hkeep hbg
       have hbe := ((Below.refl w5.heap.size w5).alloc (Nat.le_refl _) (.cells (vals .u64 Z6) 24)).trans hbg
       have Naz := qa5.lt
       have qa6 := qa5.keep hbe
       have Nbz := qb5.lt
       have qb6 := qb5.keep hbe
       have Noz := qo5.lt
       have qo6 := qo5.keep hbe
       have Nxz := qx5.lt
       have qx6 := qx5.keep hbe
       have Nyz := qy5.lt
       have qy6 := qy5.keep hbe
       have Mz : S ≤ w5.heap.size := HSS.out _ hb5
       have hb6 := hb5.trans (hbe.mono Mz)
       clear hkeep hbg hbe hb5 qa5 qb5 qo5 qx5 qy5)
    | (have hq0 := hb4
       clear hq0
       go_at_call 48
       refine (prodS a ha b hb S (S + 1) _ (HG.out _ hb4) qa4 qb4).mono ?_
       rintro e w5 ⟨rfl, hq⟩
       have qa5 := qa4.keep hq
       have qb5 := qb4.keep hq
       have qo5 := qo4.keep hq
       have qx5 := qx4.keep hq
       have qy5 := qy4.keep hq
       have hb5 := hb4.trans (hq.mono (HSS.out _ hb4))
       clear hq hb4 qa4 qb4 qo4 qx4 qy4)
    | (refine store_abs2 (by rfl) 24 (.tmp 7) (.tmp 18) (by rfl) (by rfl) (w3.heap.size) (vals .u64 (Fp.fe (num (seg 6 6 a) * num (seg 6 6 b)))) (by rfl) (by rfl) 24 (vals .u64 Z6) (Has.new' _ rfl _ _) (by rw [vals_size, (Nm.fe _).len]; kernel_rfl) (by rw [vals_size, vals_size, (Nm.fe _).len]; rfl) vals_one ?_
       intro w4 qy4 hkeep hbg
       have hbe := ((Below.refl w3.heap.size w3).alloc (Nat.le_refl _) (.cells (vals .u64 Z6) 24)).trans hbg
       have Nay := qa3.lt
       have qa4 := qa3.keep hbe
       have Nby := qb3.lt
       have qb4 := qb3.keep hbe
       have Noy := qo3.lt
       have qo4 := qo3.keep hbe
       have Nxy := qx3.lt
       have qx4 := qx3.keep hbe
       have My : S ≤ w3.heap.size := HSS.out _ hb3
       have hb4 := hb3.trans (hbe.mono My)
       clear hkeep hbg hbe hb3 qa3 qb3 qo3 qx3)
    | (have hq0 := hb2
       clear hq0
       go_at_call 48
       refine (prodB a ha b hb S (S + 1) _ (HG.out _ hb2) qa2 qb2).mono ?_
       rintro e w3 ⟨rfl, hq⟩
       have qa3 := qa2.keep hq
       have qb3 := qb2.keep hq
       have qo3 := qo2.keep hq
       have qx3 := qx2.keep hq
       have hb3 := hb2.trans (hq.mono (HSS.out _ hb2))
       clear hq hb2 qa2 qb2 qo2 qx2)
    | (refine store_abs2 (by rfl) 24 (.tmp 6) (.tmp 16) (by rfl) (by rfl) (w1.heap.size) (vals .u64 (Fp.fe (num (seg 0 6 a) * num (seg 0 6 b)))) (by rfl) (by rfl) 24 (vals .u64 Z6) (Has.new' _ rfl _ _) (by rw [vals_size, (Nm.fe _).len]; kernel_rfl) (by rw [vals_size, vals_size, (Nm.fe _).len]; rfl) vals_one ?_
       intro w2 qx2 hkeep hbg
       have hbe := ((Below.refl w1.heap.size w1).alloc (Nat.le_refl _) (.cells (vals .u64 Z6) 24)).trans hbg
       have Nax := qa1.lt
       have qa2 := qa1.keep hbe
       have Nbx := qb1.lt
       have qb2 := qb1.keep hbe
       have Nox := qo1.lt
       have qo2 := qo1.keep hbe
       have Mx : S ≤ w1.heap.size := HSS.out _ hb1
       have hb2 := hb1.trans (hbe.mono Mx)
       clear hkeep hbg hbe hb1 qa1 qb1 qo1)
    | (have hq0 := hb0
       clear hq0
       go_at_call 48
       refine (prodA a ha b hb S (S + 1) _ (HG.out _ hb0) qa0 qb0).mono ?_
       rintro e w1 ⟨rfl, hq⟩
       have qa1 := qa0.keep hq
       have qb1 := qb0.keep hq
       have qo1 := qo0.keep hq
       have hb1 := hb0.trans (hq.mono (HSS.out _ hb0))
       clear hq hb0 qa0 qb0 qo0)
    | (refine wpList_load_row rfl 26 (.tmp 3) rfl (S + 1) rfl _ _ _ _ qb0.eq Tryd.underlying26 rfl (by rw [vals_size, hb.len]; kernel_rfl) ?_)
    | (refine wpList_load_row rfl 26 (.tmp 2) rfl (S) rfl _ _ _ _ qa0.eq Tryd.underlying26 rfl (by rw [vals_size, ha.len]; kernel_rfl) ?_))
  refine wp_reads 9 1 (S + 2) (by kernel_rfl) (by kernel_rfl) (by rfl) (by kernel_rfl) (fun _ _ d _ _ h => by cases d <;> exact h) ?_
  simp only [List.take_succ_cons, List.take_zero]
  repeat ((first
    | refine take_load (by rfl) 24 (by rfl) (g := S) (n := 6) (by rfl) (t := 26) (xs := a) (fun w hw => hw.has qa6 (by omega)) Tryd.underlying24 rfl (by kernel_rfl) (by rw [ha.len]; decide) ?_
    | refine take_loadw (by rfl) 26 (by rfl) (g := S) (n := 12) (by rfl) (t := 26) (xs := a) (fun w hw => hw.has qa6 (by omega)) Tryd.underlying26 rfl (by kernel_rfl) ha.len ?_
    | refine take_load (by rfl) 24 (by rfl) (g := S + 1) (n := 6) (by rfl) (t := 26) (xs := b) (fun w hw => hw.has qb6 (by omega)) Tryd.underlying24 rfl (by kernel_rfl) (by rw [hb.len]; decide) ?_
    | refine take_loadw (by rfl) 26 (by rfl) (g := S + 1) (n := 12) (by rfl) (t := 26) (xs := b) (fun w hw => hw.has qb6 (by omega)) Tryd.underlying26 rfl (by kernel_rfl) hb.len ?_
    | refine take_loadw (by rfl) 24 (by rfl) (g := w1.heap.size) (n := 6) (by rfl) (t := 24) (xs := (Fp.fe (num (seg 0 6 a) * num (seg 0 6 b)))) (fun w hw => hw.has qx6 (by omega)) Tryd.underlying24 rfl (by kernel_rfl) (Nm.fe _).len ?_
    | refine take_loadw (by rfl) 24 (by rfl) (g := w3.heap.size) (n := 6) (by rfl) (t := 24) (xs := (Fp.fe (num (seg 6 6 a) * num (seg 6 6 b)))) (fun w hw => hw.has qy6 (by omega)) Tryd.underlying24 rfl (by kernel_rfl) (Nm.fe _).len ?_
    | refine take_loadw (by rfl) 24 (by rfl) (g := w5.heap.size) (n := 6) (by rfl) (t := 24) (xs := (Fp.fe (num (Fp.fe (num (seg 0 6 a) + num (seg 6 6 a))) * num (Fp.fe (num (seg 0 6 b) + num (seg 6 6 b)))))) (fun w hw => hw.has qz6 (by omega)) Tryd.underlying24 rfl (by kernel_rfl) (Nm.fe _).len ?_
    | refine take_build (by rfl) (by rfl) (by refine build2 ?_ ?_ <;> (with_reducible first | exact Nm.fe _ | exact Nm.F2 _ | assumption | exact nm_one | exact nm_Z6 | (refine Nm.seg (m := 12) ?_ (by decide); assumption) | exact Nm.seg (m := 12) (Nm.F2 _) (by decide) | exact Nm.app2 (.fe _) (.fe _) | fail)) ?_
    | refine wpTake_cons (.inl ⟨by rfl, fun w hw => (by unfold Oper.quietAt; go_simp; (first | with_reducible refine pRed ?_ _ (HG.out _ (hb6.trans (hw.below (by first | omega | exact HSS.out _ hb6) (HSS.out _ hb6)))) | with_reducible refine pAdd ?_ ?_ _ (HG.out _ (hb6.trans (hw.below (by first | omega | exact HSS.out _ hb6) (HSS.out _ hb6)))) | with_reducible refine pSub ?_ ?_ _ (HG.out _ (hb6.trans (hw.below (by first | omega | exact HSS.out _ hb6) (HSS.out _ hb6)))) | with_reducible refine pMul ?_ ?_ _ (HG.out _ (hb6.trans (hw.below (by first | omega | exact HSS.out _ hb6) (HSS.out _ hb6)))) | with_reducible refine pNeg ?_ _ (HG.out _ (hb6.trans (hw.below (by first | omega | exact HSS.out _ hb6) (HSS.out _ hb6))))) <;> (with_reducible first | exact Nm.fe _ | exact Nm.F2 _ | assumption | exact nm_one | exact nm_Z6 | (refine Nm.seg (m := 12) ?_ (by decide); assumption) | exact Nm.seg (m := 12) (Nm.F2 _) (by decide) | exact Nm.app2 (.fe _) (.fe _) | fail))⟩) ?_
    | refine wpTake_cons (Steady.of_yields (Or.inl ⟨by rfl, fun w => (by first | (go_simp; done) | (go_simp; with_reducible rfl))⟩)) ?_); simp only [List.getElem_toArray, List.getElem_cons_zero, List.getElem_cons_succ, Act.put, List.setIfInBounds_toArray, List.set_cons_zero, List.set_cons_succ])
  refine wpTake_nil ?_
  refine tail_store (i := 9) (by rfl) (by kernel_rfl) (by kernel_rfl) (by rfl) 26 (.tmp 4) (.tmp 29) (by rfl) (by rfl) (S + 2) _ (by rfl) (by rfl) 26 _ qo6 (by rw [vals_size, (Nm.app (.fe _) (.fe _)).len]; kernel_rfl) (by rw [vals_size, vals_size, (Nm.app (.fe _) (.fe _)).len]; rfl) vals_one ?_
  intro w7 qo7 hbt
  have qa7 := hbt.has qa6 (by omega)
  have qb7 := hbt.has qb6 (by omega)
  have qx7 := hbt.has qx6 (by omega)
  have qy7 := hbt.has qy6 (by omega)
  have qz7 := hbt.has qz6 (by omega)
  have hb7 := hb6.trans (hbt.below (by omega) (HSS.out _ hb6))
  clear hbt hb6 qa6 qb6 qo6 qx6 qy6 qz6
  go_wp2
  refine bodyPost_ret (v := .agg (vals .u64 _)) (results_cell_row rfl _ _ (S + 2) _ _ _ _ rfl qo7.eq Tryd.underlying26 rfl (by rw [vals_size, (Nm.app (.fe _) (.fe _)).len]; kernel_rfl)) rfl ⟨ret_eq (congrArg (fun z => Value.agg (vals .u64 z)) (mul_v a b)), hb7⟩

set_option maxRecDepth 100000 in
set_option maxHeartbeats 4000000 in
theorem lMul2 (a : List Int) (ha : Nm 12 a) (b : List Int) (hb : Nm 12 b) (w : World) (hG : Glob w) : Calls Tryd.prog 30 #[.agg (vals .u64 a), .agg (vals .u64 b)] w fun e w' => e = .returned (.agg (vals .u64 (F2 (gm (v2 a) (v2 b))))) ∧ Below w.heap.size w w' := by
  by_cases h : a = b
  · subst h
    exact mul_same a ha w hG
  · exact mul_apart a ha b hb h w hG

end Go.Proofs.YtpkbbdhpdplkeaaDoor.Fp2
