/-
  Own text. The walks of layer 9's statements: sums, products, field.
-/
import Derived.Test.YtpkbbdhpdplkeaaDoorFp6Awake
namespace Go.Proofs.YtpkbbdhpdplkeaaDoor.Fp6
set_option linter.unusedVariables false
set_option linter.unusedSimpArgs false
open Go Go.RowKit Go.Proofs.YtpkbbdhpdplkeaaDoor.Reg Go.Proofs.YtpkbbdhpdplkeaaDoor.Base Go.Proofs.YtpkbbdhpdplkeaaDoor.Limb Go.Proofs.YtpkbbdhpdplkeaaDoor.Fp Go.Proofs.YtpkbbdhpdplkeaaDoor.Fp2

set_option maxRecDepth 100000 in
set_option maxHeartbeats 4000000 in
theorem sums_w (a : List Int) (ha : Nm 36 a) (b : List Int) (hb : Nm 36 b) (k : List Int) (hk : Nm 12 k) (w : World) (hG : GlobD w) : Calls Tryd.prog 3 #[.agg (vals .u64 a), .agg (vals .u64 b), .agg (vals .u64 k)] w fun e w' => e = .returned (.bool true) ∧ Below w.heap.size w w' := by
  obtain ⟨S, hS⟩ : ∃ S, w.heap.size = S := ⟨_, rfl⟩
  have qa0 : Has (((w.alloc (.cells (vals .u64 a) 28)).alloc (.cells (vals .u64 b) 28)).alloc (.cells (vals .u64 k) 26)) (S) 28 (vals .u64 a) := (((Has.new' _ hS.symm _ _).alloc _).alloc _)
  have qb0 : Has (((w.alloc (.cells (vals .u64 a) 28)).alloc (.cells (vals .u64 b) 28)).alloc (.cells (vals .u64 k) 26)) (S + 1) 28 (vals .u64 b) := ((Has.new' _ (by simp only [World.size_alloc, hS]) _ _).alloc _)
  have qk0 : Has (((w.alloc (.cells (vals .u64 a) 28)).alloc (.cells (vals .u64 b) 28)).alloc (.cells (vals .u64 k) 26)) (S + 2) 26 (vals .u64 k) := (Has.new' _ (by simp only [World.size_alloc, hS]) _ _)
  have hb0 : Below S w (((w.alloc (.cells (vals .u64 a) 28)).alloc (.cells (vals .u64 b) 28)).alloc (.cells (vals .u64 k) 26)) := by rw [← hS]; exact ((((Below.refl _ _).alloc (Nat.le_refl _) _).alloc (by simp <;> omega) _).alloc (by simp <;> omega) _)
  have hsz0 : (((w.alloc (.cells (vals .u64 a) 28)).alloc (.cells (vals .u64 b) 28)).alloc (.cells (vals .u64 k) 26)).heap.size = S + 3 := by simp only [World.size_alloc, hS]
  have HSS : Keep (∀ x : World, Below S w x → S ≤ x.heap.size) := ⟨fun x hb => Nat.le_trans (by omega) hb.size⟩
  have HD : Keep (∀ x : World, Below S w x → GlobD x) := ⟨fun x hb => hG.keep (by rw [hS]; exact hb)⟩
  have HG : Keep (∀ x : World, Below S w x → Glob x) := ⟨fun x hb => (HD.out x hb).toGlob⟩
  clear hG
  rw [hS]
  go_enter Tryd.func3, Tryd.ntmps3
  go_wp2_with (first
    | (have hq0 := hb0
       clear hq0
       go_at_call 9
       refine (awake_c _ (HD.out _ hb0)).mono ?_
       rintro e w1 ⟨rfl, hq⟩
       have qa1 := qa0.keep hq
       have qb1 := qb0.keep hq
       have qk1 := qk0.keep hq
       have hb1 := hb0.trans (hq.mono (HSS.out _ hb0))
       clear hq hb0 qa0 qb0 qk0))
  refine wp_reads 24 0 w1.heap.size (by kernel_rfl) (by kernel_rfl) (by rfl) (by kernel_rfl) (fun _ _ d _ _ h => by cases d <;> exact h) ?_
  simp only [List.take_succ_cons, List.take_zero]
  repeat ((first
    | refine take_eql_t (by rfl) (by rfl) (by rfl) (by rfl) eqokh gdh (Nm.len (n := 36) (by with_reducible first | exact Nm.F2 _ | exact Nm.F6 _ | assumption | exact nm_N36d | exact nm_Z36 | exact nm_O36l | exact nm_V36d | exact nm_C36d | exact nm_X36d | (refine Nm.seg (m := 36) ?_ (by decide); assumption) | exact Nm.seg (m := 36) (Nm.F6 _) (by decide) | exact Nm.app3 (.F2 _) (.F2 _) (.F2 _) | fail)) (Nm.len (n := 36) (by with_reducible first | exact Nm.F2 _ | exact Nm.F6 _ | assumption | exact nm_N36d | exact nm_Z36 | exact nm_O36l | exact nm_V36d | exact nm_C36d | exact nm_X36d | (refine Nm.seg (m := 36) ?_ (by decide); assumption) | exact Nm.seg (m := 36) (Nm.F6 _) (by decide) | exact Nm.app3 (.F2 _) (.F2 _) (.F2 _) | fail)) (by with_reducible first | rfl) ?_
    | refine take_load (by rfl) 26 (by rfl) (g := S) (n := 12) (by rfl) (t := 28) (xs := a) (fun w hw => hw.has qa1 (Nat.ne_of_lt qa1.lt)) Tryd.underlying26 rfl (by kernel_rfl) (by rw [ha.len]; decide) ?_
    | refine take_loadw (by rfl) 28 (by rfl) (g := S) (n := 36) (by rfl) (t := 28) (xs := a) (fun w hw => hw.has qa1 (Nat.ne_of_lt qa1.lt)) Tryd.underlying28 rfl (by kernel_rfl) ha.len ?_
    | refine take_load (by rfl) 26 (by rfl) (g := S + 1) (n := 12) (by rfl) (t := 28) (xs := b) (fun w hw => hw.has qb1 (Nat.ne_of_lt qb1.lt)) Tryd.underlying26 rfl (by kernel_rfl) (by rw [hb.len]; decide) ?_
    | refine take_loadw (by rfl) 28 (by rfl) (g := S + 1) (n := 36) (by rfl) (t := 28) (xs := b) (fun w hw => hw.has qb1 (Nat.ne_of_lt qb1.lt)) Tryd.underlying28 rfl (by kernel_rfl) hb.len ?_
    | refine take_loadw (by rfl) 26 (by rfl) (g := S + 2) (n := 12) (by rfl) (t := 26) (xs := k) (fun w hw => hw.has qk1 (Nat.ne_of_lt qk1.lt)) Tryd.underlying26 rfl (by kernel_rfl) hk.len ?_
    | refine wpTake_cons (.inl ⟨by rfl, fun w hw => (by unfold Oper.quietAt; go_simp; (first | with_reducible refine lRed6 _ ?_ _ (HG.out _ (hb1.trans (hw.below (HSS.out _ hb1) (HSS.out _ hb1)))) | with_reducible refine lAdd6 _ ?_ _ ?_ _ (HG.out _ (hb1.trans (hw.below (HSS.out _ hb1) (HSS.out _ hb1)))) | with_reducible refine lSub6 _ ?_ _ ?_ _ (HG.out _ (hb1.trans (hw.below (HSS.out _ hb1) (HSS.out _ hb1)))) | with_reducible refine lNeg6 _ ?_ _ (HG.out _ (hb1.trans (hw.below (HSS.out _ hb1) (HSS.out _ hb1)))) | with_reducible refine lMul6 _ ?_ _ ?_ _ (HG.out _ (hb1.trans (hw.below (HSS.out _ hb1) (HSS.out _ hb1)))) | with_reducible refine lInv6 _ ?_ _ (HD.out _ (hb1.trans (hw.below (HSS.out _ hb1) (HSS.out _ hb1)))) | with_reducible refine lScale6 _ ?_ _ ?_ _ (HG.out _ (hb1.trans (hw.below (HSS.out _ hb1) (HSS.out _ hb1)))) | with_reducible refine lV6 _ ?_ _ (HG.out _ (hb1.trans (hw.below (HSS.out _ hb1) (HSS.out _ hb1)))) | with_reducible refine refRed6 _ ?_ _ | with_reducible refine refAdd6 _ ?_ _ ?_ _ | with_reducible refine refSub6 _ ?_ _ ?_ _ | with_reducible refine refNeg6 _ ?_ _ | with_reducible refine refMul6 _ ?_ _ ?_ _ | with_reducible refine refInv6 _ ?_ _ | with_reducible refine refScale6 _ ?_ _ ?_ _ | with_reducible refine refV6 _ ?_ _) <;> (with_reducible first | exact Nm.F2 _ | exact Nm.F6 _ | assumption | exact nm_N36d | exact nm_Z36 | exact nm_O36l | exact nm_V36d | exact nm_C36d | exact nm_X36d | (refine Nm.seg (m := 36) ?_ (by decide); assumption) | exact Nm.seg (m := 36) (Nm.F6 _) (by decide) | exact Nm.app3 (.F2 _) (.F2 _) (.F2 _) | fail))⟩) ?_
    | refine wpTake_cons (Steady.of_yields (Or.inl ⟨by rfl, fun w => (by first | (go_simp; done) | (go_simp; with_reducible rfl))⟩)) ?_); simp only [List.getElem_toArray, List.getElem_cons_zero, List.getElem_cons_succ, Act.put, List.setIfInBounds_toArray, List.set_cons_zero, List.set_cons_succ])
  refine wpTake_nil ?_
  refine wpAnyU_end (by kernel_rfl) (fun w2 hq0 => ?_)
  have hq := (drawn_below w1).trans hq0
  have qa2 := qa1.keep hq
  have qb2 := qb1.keep hq
  have qk2 := qk1.keep hq
  have hb2 := hb1.trans (hq.mono (HSS.out _ hb1))
  clear hq0 hq hb1 qa1 qb1 qk1
  go_wp2
  refine wp_reads 21 0 w2.heap.size (by kernel_rfl) (by kernel_rfl) (by rfl) (by kernel_rfl) (fun _ _ d _ _ h => by cases d <;> exact h) ?_
  simp only [List.take_succ_cons, List.take_zero]
  repeat ((first
    | refine take_eql_t (by rfl) (by rfl) (by rfl) (by rfl) eqokh gdh (Nm.len (n := 36) (by with_reducible first | exact Nm.F2 _ | exact Nm.F6 _ | assumption | exact nm_N36d | exact nm_Z36 | exact nm_O36l | exact nm_V36d | exact nm_C36d | exact nm_X36d | (refine Nm.seg (m := 36) ?_ (by decide); assumption) | exact Nm.seg (m := 36) (Nm.F6 _) (by decide) | exact Nm.app3 (.F2 _) (.F2 _) (.F2 _) | fail)) (Nm.len (n := 36) (by with_reducible first | exact Nm.F2 _ | exact Nm.F6 _ | assumption | exact nm_N36d | exact nm_Z36 | exact nm_O36l | exact nm_V36d | exact nm_C36d | exact nm_X36d | (refine Nm.seg (m := 36) ?_ (by decide); assumption) | exact Nm.seg (m := 36) (Nm.F6 _) (by decide) | exact Nm.app3 (.F2 _) (.F2 _) (.F2 _) | fail)) (by with_reducible first | rfl) ?_
    | refine take_load (by rfl) 26 (by rfl) (g := S) (n := 12) (by rfl) (t := 28) (xs := a) (fun w hw => hw.has qa2 (Nat.ne_of_lt qa2.lt)) Tryd.underlying26 rfl (by kernel_rfl) (by rw [ha.len]; decide) ?_
    | refine take_loadw (by rfl) 28 (by rfl) (g := S) (n := 36) (by rfl) (t := 28) (xs := a) (fun w hw => hw.has qa2 (Nat.ne_of_lt qa2.lt)) Tryd.underlying28 rfl (by kernel_rfl) ha.len ?_
    | refine take_load (by rfl) 26 (by rfl) (g := S + 1) (n := 12) (by rfl) (t := 28) (xs := b) (fun w hw => hw.has qb2 (Nat.ne_of_lt qb2.lt)) Tryd.underlying26 rfl (by kernel_rfl) (by rw [hb.len]; decide) ?_
    | refine take_loadw (by rfl) 28 (by rfl) (g := S + 1) (n := 36) (by rfl) (t := 28) (xs := b) (fun w hw => hw.has qb2 (Nat.ne_of_lt qb2.lt)) Tryd.underlying28 rfl (by kernel_rfl) hb.len ?_
    | refine take_loadw (by rfl) 26 (by rfl) (g := S + 2) (n := 12) (by rfl) (t := 26) (xs := k) (fun w hw => hw.has qk2 (Nat.ne_of_lt qk2.lt)) Tryd.underlying26 rfl (by kernel_rfl) hk.len ?_
    | refine wpTake_cons (.inl ⟨by rfl, fun w hw => (by unfold Oper.quietAt; go_simp; (first | with_reducible refine lRed6 _ ?_ _ (HG.out _ (hb2.trans (hw.below (HSS.out _ hb2) (HSS.out _ hb2)))) | with_reducible refine lAdd6 _ ?_ _ ?_ _ (HG.out _ (hb2.trans (hw.below (HSS.out _ hb2) (HSS.out _ hb2)))) | with_reducible refine lSub6 _ ?_ _ ?_ _ (HG.out _ (hb2.trans (hw.below (HSS.out _ hb2) (HSS.out _ hb2)))) | with_reducible refine lNeg6 _ ?_ _ (HG.out _ (hb2.trans (hw.below (HSS.out _ hb2) (HSS.out _ hb2)))) | with_reducible refine lMul6 _ ?_ _ ?_ _ (HG.out _ (hb2.trans (hw.below (HSS.out _ hb2) (HSS.out _ hb2)))) | with_reducible refine lInv6 _ ?_ _ (HD.out _ (hb2.trans (hw.below (HSS.out _ hb2) (HSS.out _ hb2)))) | with_reducible refine lScale6 _ ?_ _ ?_ _ (HG.out _ (hb2.trans (hw.below (HSS.out _ hb2) (HSS.out _ hb2)))) | with_reducible refine lV6 _ ?_ _ (HG.out _ (hb2.trans (hw.below (HSS.out _ hb2) (HSS.out _ hb2)))) | with_reducible refine refRed6 _ ?_ _ | with_reducible refine refAdd6 _ ?_ _ ?_ _ | with_reducible refine refSub6 _ ?_ _ ?_ _ | with_reducible refine refNeg6 _ ?_ _ | with_reducible refine refMul6 _ ?_ _ ?_ _ | with_reducible refine refInv6 _ ?_ _ | with_reducible refine refScale6 _ ?_ _ ?_ _ | with_reducible refine refV6 _ ?_ _) <;> (with_reducible first | exact Nm.F2 _ | exact Nm.F6 _ | assumption | exact nm_N36d | exact nm_Z36 | exact nm_O36l | exact nm_V36d | exact nm_C36d | exact nm_X36d | (refine Nm.seg (m := 36) ?_ (by decide); assumption) | exact Nm.seg (m := 36) (Nm.F6 _) (by decide) | exact Nm.app3 (.F2 _) (.F2 _) (.F2 _) | fail))⟩) ?_
    | refine wpTake_cons (Steady.of_yields (Or.inl ⟨by rfl, fun w => (by first | (go_simp; done) | (go_simp; with_reducible rfl))⟩)) ?_); simp only [List.getElem_toArray, List.getElem_cons_zero, List.getElem_cons_succ, Act.put, List.setIfInBounds_toArray, List.set_cons_zero, List.set_cons_succ])
  refine wpTake_nil ?_
  refine wpAnyU_end (by kernel_rfl) (fun w3 hq0 => ?_)
  have hq := (drawn_below w2).trans hq0
  have qa3 := qa2.keep hq
  have qb3 := qb2.keep hq
  have qk3 := qk2.keep hq
  have hb3 := hb2.trans (hq.mono (HSS.out _ hb2))
  clear hq0 hq hb2 qa2 qb2 qk2
  go_wp2
  go_ret
  exact ⟨rfl, hb3⟩

set_option maxRecDepth 100000 in
set_option maxHeartbeats 4000000 in
theorem products_w (a : List Int) (ha : Nm 36 a) (b : List Int) (hb : Nm 36 b) (w : World) (hG : GlobD w) : Calls Tryd.prog 4 #[.agg (vals .u64 a), .agg (vals .u64 b)] w fun e w' => e = .returned (.bool true) ∧ Below w.heap.size w w' := by
  obtain ⟨S, hS⟩ : ∃ S, w.heap.size = S := ⟨_, rfl⟩
  have qa0 : Has ((w.alloc (.cells (vals .u64 a) 28)).alloc (.cells (vals .u64 b) 28)) (S) 28 (vals .u64 a) := ((Has.new' _ hS.symm _ _).alloc _)
  have qb0 : Has ((w.alloc (.cells (vals .u64 a) 28)).alloc (.cells (vals .u64 b) 28)) (S + 1) 28 (vals .u64 b) := (Has.new' _ (by simp only [World.size_alloc, hS]) _ _)
  have hb0 : Below S w ((w.alloc (.cells (vals .u64 a) 28)).alloc (.cells (vals .u64 b) 28)) := by rw [← hS]; exact (((Below.refl _ _).alloc (Nat.le_refl _) _).alloc (by simp <;> omega) _)
  have hsz0 : ((w.alloc (.cells (vals .u64 a) 28)).alloc (.cells (vals .u64 b) 28)).heap.size = S + 2 := by simp only [World.size_alloc, hS]
  have HSS : Keep (∀ x : World, Below S w x → S ≤ x.heap.size) := ⟨fun x hb => Nat.le_trans (by omega) hb.size⟩
  have HD : Keep (∀ x : World, Below S w x → GlobD x) := ⟨fun x hb => hG.keep (by rw [hS]; exact hb)⟩
  have HG : Keep (∀ x : World, Below S w x → Glob x) := ⟨fun x hb => (HD.out x hb).toGlob⟩
  clear hG
  rw [hS]
  go_enter Tryd.func4, Tryd.ntmps4
  go_wp2_with (first
    | (have hq0 := hb0
       clear hq0
       go_at_call 9
       refine (awake_c _ (HD.out _ hb0)).mono ?_
       rintro e w1 ⟨rfl, hq⟩
       have qa1 := qa0.keep hq
       have qb1 := qb0.keep hq
       have hb1 := hb0.trans (hq.mono (HSS.out _ hb0))
       clear hq hb0 qa0 qb0))
  refine wp_reads 25 0 w1.heap.size (by kernel_rfl) (by kernel_rfl) (by rfl) (by kernel_rfl) (fun _ _ d _ _ h => by cases d <;> exact h) ?_
  simp only [List.take_succ_cons, List.take_zero]
  repeat ((first
    | refine take_eql_t (by rfl) (by rfl) (by rfl) (by rfl) eqokh gdh (Nm.len (n := 36) (by with_reducible first | exact Nm.F2 _ | exact Nm.F6 _ | assumption | exact nm_N36d | exact nm_Z36 | exact nm_O36l | exact nm_V36d | exact nm_C36d | exact nm_X36d | (refine Nm.seg (m := 36) ?_ (by decide); assumption) | exact Nm.seg (m := 36) (Nm.F6 _) (by decide) | exact Nm.app3 (.F2 _) (.F2 _) (.F2 _) | fail)) (Nm.len (n := 36) (by with_reducible first | exact Nm.F2 _ | exact Nm.F6 _ | assumption | exact nm_N36d | exact nm_Z36 | exact nm_O36l | exact nm_V36d | exact nm_C36d | exact nm_X36d | (refine Nm.seg (m := 36) ?_ (by decide); assumption) | exact Nm.seg (m := 36) (Nm.F6 _) (by decide) | exact Nm.app3 (.F2 _) (.F2 _) (.F2 _) | fail)) (by with_reducible first | rfl) ?_
    | refine take_load (by rfl) 26 (by rfl) (g := S) (n := 12) (by rfl) (t := 28) (xs := a) (fun w hw => hw.has qa1 (Nat.ne_of_lt qa1.lt)) Tryd.underlying26 rfl (by kernel_rfl) (by rw [ha.len]; decide) ?_
    | refine take_loadw (by rfl) 28 (by rfl) (g := S) (n := 36) (by rfl) (t := 28) (xs := a) (fun w hw => hw.has qa1 (Nat.ne_of_lt qa1.lt)) Tryd.underlying28 rfl (by kernel_rfl) ha.len ?_
    | refine take_load (by rfl) 26 (by rfl) (g := S + 1) (n := 12) (by rfl) (t := 28) (xs := b) (fun w hw => hw.has qb1 (Nat.ne_of_lt qb1.lt)) Tryd.underlying26 rfl (by kernel_rfl) (by rw [hb.len]; decide) ?_
    | refine take_loadw (by rfl) 28 (by rfl) (g := S + 1) (n := 36) (by rfl) (t := 28) (xs := b) (fun w hw => hw.has qb1 (Nat.ne_of_lt qb1.lt)) Tryd.underlying28 rfl (by kernel_rfl) hb.len ?_
    | refine wpTake_cons (.inl ⟨by rfl, fun w hw => (by unfold Oper.quietAt; go_simp; (first | with_reducible refine lRed6 _ ?_ _ (HG.out _ (hb1.trans (hw.below (HSS.out _ hb1) (HSS.out _ hb1)))) | with_reducible refine lAdd6 _ ?_ _ ?_ _ (HG.out _ (hb1.trans (hw.below (HSS.out _ hb1) (HSS.out _ hb1)))) | with_reducible refine lSub6 _ ?_ _ ?_ _ (HG.out _ (hb1.trans (hw.below (HSS.out _ hb1) (HSS.out _ hb1)))) | with_reducible refine lNeg6 _ ?_ _ (HG.out _ (hb1.trans (hw.below (HSS.out _ hb1) (HSS.out _ hb1)))) | with_reducible refine lMul6 _ ?_ _ ?_ _ (HG.out _ (hb1.trans (hw.below (HSS.out _ hb1) (HSS.out _ hb1)))) | with_reducible refine lInv6 _ ?_ _ (HD.out _ (hb1.trans (hw.below (HSS.out _ hb1) (HSS.out _ hb1)))) | with_reducible refine lScale6 _ ?_ _ ?_ _ (HG.out _ (hb1.trans (hw.below (HSS.out _ hb1) (HSS.out _ hb1)))) | with_reducible refine lV6 _ ?_ _ (HG.out _ (hb1.trans (hw.below (HSS.out _ hb1) (HSS.out _ hb1)))) | with_reducible refine refRed6 _ ?_ _ | with_reducible refine refAdd6 _ ?_ _ ?_ _ | with_reducible refine refSub6 _ ?_ _ ?_ _ | with_reducible refine refNeg6 _ ?_ _ | with_reducible refine refMul6 _ ?_ _ ?_ _ | with_reducible refine refInv6 _ ?_ _ | with_reducible refine refScale6 _ ?_ _ ?_ _ | with_reducible refine refV6 _ ?_ _) <;> (with_reducible first | exact Nm.F2 _ | exact Nm.F6 _ | assumption | exact nm_N36d | exact nm_Z36 | exact nm_O36l | exact nm_V36d | exact nm_C36d | exact nm_X36d | (refine Nm.seg (m := 36) ?_ (by decide); assumption) | exact Nm.seg (m := 36) (Nm.F6 _) (by decide) | exact Nm.app3 (.F2 _) (.F2 _) (.F2 _) | fail))⟩) ?_
    | refine wpTake_cons (Steady.of_yields (Or.inl ⟨by rfl, fun w => (by first | (go_simp; done) | (go_simp; with_reducible rfl))⟩)) ?_); simp only [List.getElem_toArray, List.getElem_cons_zero, List.getElem_cons_succ, Act.put, List.setIfInBounds_toArray, List.set_cons_zero, List.set_cons_succ])
  refine wpTake_nil ?_
  refine wpAnyU_end (by kernel_rfl) (fun w2 hq0 => ?_)
  have hq := (drawn_below w1).trans hq0
  have qa2 := qa1.keep hq
  have qb2 := qb1.keep hq
  have hb2 := hb1.trans (hq.mono (HSS.out _ hb1))
  clear hq0 hq hb1 qa1 qb1
  go_wp2
  go_ret
  exact ⟨rfl, hb2⟩

set_option maxRecDepth 100000 in
set_option maxHeartbeats 4000000 in
theorem field_w (a : List Int) (ha : Nm 36 a) (b : List Int) (hb : Nm 36 b) (c : List Int) (hc : Nm 36 c) (w : World) (hG : GlobD w) : Calls Tryd.prog 5 #[.agg (vals .u64 a), .agg (vals .u64 b), .agg (vals .u64 c)] w fun e w' => e = .returned (.bool true) ∧ Below w.heap.size w w' := by
  obtain ⟨S, hS⟩ : ∃ S, w.heap.size = S := ⟨_, rfl⟩
  have qa0 : Has (((w.alloc (.cells (vals .u64 a) 28)).alloc (.cells (vals .u64 b) 28)).alloc (.cells (vals .u64 c) 28)) (S) 28 (vals .u64 a) := (((Has.new' _ hS.symm _ _).alloc _).alloc _)
  have qb0 : Has (((w.alloc (.cells (vals .u64 a) 28)).alloc (.cells (vals .u64 b) 28)).alloc (.cells (vals .u64 c) 28)) (S + 1) 28 (vals .u64 b) := ((Has.new' _ (by simp only [World.size_alloc, hS]) _ _).alloc _)
  have qc0 : Has (((w.alloc (.cells (vals .u64 a) 28)).alloc (.cells (vals .u64 b) 28)).alloc (.cells (vals .u64 c) 28)) (S + 2) 28 (vals .u64 c) := (Has.new' _ (by simp only [World.size_alloc, hS]) _ _)
  have hb0 : Below S w (((w.alloc (.cells (vals .u64 a) 28)).alloc (.cells (vals .u64 b) 28)).alloc (.cells (vals .u64 c) 28)) := by rw [← hS]; exact ((((Below.refl _ _).alloc (Nat.le_refl _) _).alloc (by simp <;> omega) _).alloc (by simp <;> omega) _)
  have hsz0 : (((w.alloc (.cells (vals .u64 a) 28)).alloc (.cells (vals .u64 b) 28)).alloc (.cells (vals .u64 c) 28)).heap.size = S + 3 := by simp only [World.size_alloc, hS]
  have HSS : Keep (∀ x : World, Below S w x → S ≤ x.heap.size) := ⟨fun x hb => Nat.le_trans (by omega) hb.size⟩
  have HD : Keep (∀ x : World, Below S w x → GlobD x) := ⟨fun x hb => hG.keep (by rw [hS]; exact hb)⟩
  have HG : Keep (∀ x : World, Below S w x → Glob x) := ⟨fun x hb => (HD.out x hb).toGlob⟩
  clear hG
  rw [hS]
  go_enter Tryd.func5, Tryd.ntmps5
  go_wp2_with (first
    | (have hq0 := hb0
       clear hq0
       go_at_call 9
       refine (awake_c _ (HD.out _ hb0)).mono ?_
       rintro e w1 ⟨rfl, hq⟩
       have qa1 := qa0.keep hq
       have qb1 := qb0.keep hq
       have qc1 := qc0.keep hq
       have hb1 := hb0.trans (hq.mono (HSS.out _ hb0))
       clear hq hb0 qa0 qb0 qc0))
  refine wp_reads 30 0 w1.heap.size (by kernel_rfl) (by kernel_rfl) (by rfl) (by kernel_rfl) (fun _ _ d _ _ h => by cases d <;> exact h) ?_
  simp only [List.take_succ_cons, List.take_zero]
  repeat ((first
    | refine take_eql_t (by rfl) (by rfl) (by rfl) (by rfl) eqokh gdh (Nm.len (n := 36) (by with_reducible first | exact Nm.F2 _ | exact Nm.F6 _ | assumption | exact nm_N36d | exact nm_Z36 | exact nm_O36l | exact nm_V36d | exact nm_C36d | exact nm_X36d | (refine Nm.seg (m := 36) ?_ (by decide); assumption) | exact Nm.seg (m := 36) (Nm.F6 _) (by decide) | exact Nm.app3 (.F2 _) (.F2 _) (.F2 _) | fail)) (Nm.len (n := 36) (by with_reducible first | exact Nm.F2 _ | exact Nm.F6 _ | assumption | exact nm_N36d | exact nm_Z36 | exact nm_O36l | exact nm_V36d | exact nm_C36d | exact nm_X36d | (refine Nm.seg (m := 36) ?_ (by decide); assumption) | exact Nm.seg (m := 36) (Nm.F6 _) (by decide) | exact Nm.app3 (.F2 _) (.F2 _) (.F2 _) | fail)) (by with_reducible first | rfl | exact fld3 _ _ _ | exact fld4 _ _ _ | exact fld5 _ _ _ | exact fld1 _ _ | exact fld2 _ _ | exact fld6 _ | exact fld7 _ _) ?_
    | refine take_load (by rfl) 26 (by rfl) (g := S) (n := 12) (by rfl) (t := 28) (xs := a) (fun w hw => hw.has qa1 (Nat.ne_of_lt qa1.lt)) Tryd.underlying26 rfl (by kernel_rfl) (by rw [ha.len]; decide) ?_
    | refine take_loadw (by rfl) 28 (by rfl) (g := S) (n := 36) (by rfl) (t := 28) (xs := a) (fun w hw => hw.has qa1 (Nat.ne_of_lt qa1.lt)) Tryd.underlying28 rfl (by kernel_rfl) ha.len ?_
    | refine take_load (by rfl) 26 (by rfl) (g := S + 1) (n := 12) (by rfl) (t := 28) (xs := b) (fun w hw => hw.has qb1 (Nat.ne_of_lt qb1.lt)) Tryd.underlying26 rfl (by kernel_rfl) (by rw [hb.len]; decide) ?_
    | refine take_loadw (by rfl) 28 (by rfl) (g := S + 1) (n := 36) (by rfl) (t := 28) (xs := b) (fun w hw => hw.has qb1 (Nat.ne_of_lt qb1.lt)) Tryd.underlying28 rfl (by kernel_rfl) hb.len ?_
    | refine take_load (by rfl) 26 (by rfl) (g := S + 2) (n := 12) (by rfl) (t := 28) (xs := c) (fun w hw => hw.has qc1 (Nat.ne_of_lt qc1.lt)) Tryd.underlying26 rfl (by kernel_rfl) (by rw [hc.len]; decide) ?_
    | refine take_loadw (by rfl) 28 (by rfl) (g := S + 2) (n := 36) (by rfl) (t := 28) (xs := c) (fun w hw => hw.has qc1 (Nat.ne_of_lt qc1.lt)) Tryd.underlying28 rfl (by kernel_rfl) hc.len ?_
    | refine wpTake_cons (.inl ⟨by rfl, fun w hw => (by unfold Oper.quietAt; go_simp; (first | with_reducible refine lRed6 _ ?_ _ (HG.out _ (hb1.trans (hw.below (HSS.out _ hb1) (HSS.out _ hb1)))) | with_reducible refine lAdd6 _ ?_ _ ?_ _ (HG.out _ (hb1.trans (hw.below (HSS.out _ hb1) (HSS.out _ hb1)))) | with_reducible refine lSub6 _ ?_ _ ?_ _ (HG.out _ (hb1.trans (hw.below (HSS.out _ hb1) (HSS.out _ hb1)))) | with_reducible refine lNeg6 _ ?_ _ (HG.out _ (hb1.trans (hw.below (HSS.out _ hb1) (HSS.out _ hb1)))) | with_reducible refine lMul6 _ ?_ _ ?_ _ (HG.out _ (hb1.trans (hw.below (HSS.out _ hb1) (HSS.out _ hb1)))) | with_reducible refine lInv6 _ ?_ _ (HD.out _ (hb1.trans (hw.below (HSS.out _ hb1) (HSS.out _ hb1)))) | with_reducible refine lScale6 _ ?_ _ ?_ _ (HG.out _ (hb1.trans (hw.below (HSS.out _ hb1) (HSS.out _ hb1)))) | with_reducible refine lV6 _ ?_ _ (HG.out _ (hb1.trans (hw.below (HSS.out _ hb1) (HSS.out _ hb1)))) | with_reducible refine one_c _) <;> (with_reducible first | exact Nm.F2 _ | exact Nm.F6 _ | assumption | exact nm_N36d | exact nm_Z36 | exact nm_O36l | exact nm_V36d | exact nm_C36d | exact nm_X36d | (refine Nm.seg (m := 36) ?_ (by decide); assumption) | exact Nm.seg (m := 36) (Nm.F6 _) (by decide) | exact Nm.app3 (.F2 _) (.F2 _) (.F2 _) | fail))⟩) ?_
    | refine wpTake_cons (Steady.of_yields (Or.inl ⟨by rfl, fun w => (by first | (go_simp; done) | (go_simp; with_reducible rfl))⟩)) ?_); simp only [List.getElem_toArray, List.getElem_cons_zero, List.getElem_cons_succ, Act.put, List.setIfInBounds_toArray, List.set_cons_zero, List.set_cons_succ])
  refine wpTake_nil ?_
  refine wpAnyU_end (by kernel_rfl) (fun w2 hq0 => ?_)
  have hq := (drawn_below w1).trans hq0
  have qa2 := qa1.keep hq
  have qb2 := qb1.keep hq
  have qc2 := qc1.keep hq
  have hb2 := hb1.trans (hq.mono (HSS.out _ hb1))
  clear hq0 hq hb1 qa1 qb1 qc1
  go_wp2
  refine wp_reads 27 0 w2.heap.size (by kernel_rfl) (by kernel_rfl) (by rfl) (by kernel_rfl) (fun _ _ d _ _ h => by cases d <;> exact h) ?_
  simp only [List.take_succ_cons, List.take_zero]
  repeat ((first
    | refine take_eql_t (by rfl) (by rfl) (by rfl) (by rfl) eqokh gdh (Nm.len (n := 36) (by with_reducible first | exact Nm.F2 _ | exact Nm.F6 _ | assumption | exact nm_N36d | exact nm_Z36 | exact nm_O36l | exact nm_V36d | exact nm_C36d | exact nm_X36d | (refine Nm.seg (m := 36) ?_ (by decide); assumption) | exact Nm.seg (m := 36) (Nm.F6 _) (by decide) | exact Nm.app3 (.F2 _) (.F2 _) (.F2 _) | fail)) (Nm.len (n := 36) (by with_reducible first | exact Nm.F2 _ | exact Nm.F6 _ | assumption | exact nm_N36d | exact nm_Z36 | exact nm_O36l | exact nm_V36d | exact nm_C36d | exact nm_X36d | (refine Nm.seg (m := 36) ?_ (by decide); assumption) | exact Nm.seg (m := 36) (Nm.F6 _) (by decide) | exact Nm.app3 (.F2 _) (.F2 _) (.F2 _) | fail)) (by with_reducible first | rfl | exact fld3 _ _ _ | exact fld4 _ _ _ | exact fld5 _ _ _ | exact fld1 _ _ | exact fld2 _ _ | exact fld6 _ | exact fld7 _ _) ?_
    | refine take_load (by rfl) 26 (by rfl) (g := S) (n := 12) (by rfl) (t := 28) (xs := a) (fun w hw => hw.has qa2 (Nat.ne_of_lt qa2.lt)) Tryd.underlying26 rfl (by kernel_rfl) (by rw [ha.len]; decide) ?_
    | refine take_loadw (by rfl) 28 (by rfl) (g := S) (n := 36) (by rfl) (t := 28) (xs := a) (fun w hw => hw.has qa2 (Nat.ne_of_lt qa2.lt)) Tryd.underlying28 rfl (by kernel_rfl) ha.len ?_
    | refine take_load (by rfl) 26 (by rfl) (g := S + 1) (n := 12) (by rfl) (t := 28) (xs := b) (fun w hw => hw.has qb2 (Nat.ne_of_lt qb2.lt)) Tryd.underlying26 rfl (by kernel_rfl) (by rw [hb.len]; decide) ?_
    | refine take_loadw (by rfl) 28 (by rfl) (g := S + 1) (n := 36) (by rfl) (t := 28) (xs := b) (fun w hw => hw.has qb2 (Nat.ne_of_lt qb2.lt)) Tryd.underlying28 rfl (by kernel_rfl) hb.len ?_
    | refine take_load (by rfl) 26 (by rfl) (g := S + 2) (n := 12) (by rfl) (t := 28) (xs := c) (fun w hw => hw.has qc2 (Nat.ne_of_lt qc2.lt)) Tryd.underlying26 rfl (by kernel_rfl) (by rw [hc.len]; decide) ?_
    | refine take_loadw (by rfl) 28 (by rfl) (g := S + 2) (n := 36) (by rfl) (t := 28) (xs := c) (fun w hw => hw.has qc2 (Nat.ne_of_lt qc2.lt)) Tryd.underlying28 rfl (by kernel_rfl) hc.len ?_
    | refine wpTake_cons (.inl ⟨by rfl, fun w hw => (by unfold Oper.quietAt; go_simp; (first | with_reducible refine lRed6 _ ?_ _ (HG.out _ (hb2.trans (hw.below (HSS.out _ hb2) (HSS.out _ hb2)))) | with_reducible refine lAdd6 _ ?_ _ ?_ _ (HG.out _ (hb2.trans (hw.below (HSS.out _ hb2) (HSS.out _ hb2)))) | with_reducible refine lSub6 _ ?_ _ ?_ _ (HG.out _ (hb2.trans (hw.below (HSS.out _ hb2) (HSS.out _ hb2)))) | with_reducible refine lNeg6 _ ?_ _ (HG.out _ (hb2.trans (hw.below (HSS.out _ hb2) (HSS.out _ hb2)))) | with_reducible refine lMul6 _ ?_ _ ?_ _ (HG.out _ (hb2.trans (hw.below (HSS.out _ hb2) (HSS.out _ hb2)))) | with_reducible refine lInv6 _ ?_ _ (HD.out _ (hb2.trans (hw.below (HSS.out _ hb2) (HSS.out _ hb2)))) | with_reducible refine lScale6 _ ?_ _ ?_ _ (HG.out _ (hb2.trans (hw.below (HSS.out _ hb2) (HSS.out _ hb2)))) | with_reducible refine lV6 _ ?_ _ (HG.out _ (hb2.trans (hw.below (HSS.out _ hb2) (HSS.out _ hb2)))) | with_reducible refine one_c _) <;> (with_reducible first | exact Nm.F2 _ | exact Nm.F6 _ | assumption | exact nm_N36d | exact nm_Z36 | exact nm_O36l | exact nm_V36d | exact nm_C36d | exact nm_X36d | (refine Nm.seg (m := 36) ?_ (by decide); assumption) | exact Nm.seg (m := 36) (Nm.F6 _) (by decide) | exact Nm.app3 (.F2 _) (.F2 _) (.F2 _) | fail))⟩) ?_
    | refine wpTake_cons (Steady.of_yields (Or.inl ⟨by rfl, fun w => (by first | (go_simp; done) | (go_simp; with_reducible rfl))⟩)) ?_); simp only [List.getElem_toArray, List.getElem_cons_zero, List.getElem_cons_succ, Act.put, List.setIfInBounds_toArray, List.set_cons_zero, List.set_cons_succ])
  refine wpTake_nil ?_
  refine wpAnyU_end (by kernel_rfl) (fun w3 hq0 => ?_)
  have hq := (drawn_below w2).trans hq0
  have qa3 := qa2.keep hq
  have qb3 := qb2.keep hq
  have qc3 := qc2.keep hq
  have hb3 := hb2.trans (hq.mono (HSS.out _ hb2))
  clear hq0 hq hb2 qa2 qb2 qc2
  go_wp2
  refine wp_reads 26 0 w3.heap.size (by kernel_rfl) (by kernel_rfl) (by rfl) (by kernel_rfl) (fun _ _ d _ _ h => by cases d <;> exact h) ?_
  simp only [List.take_succ_cons, List.take_zero]
  repeat ((first
    | refine take_eql_t (by rfl) (by rfl) (by rfl) (by rfl) eqokh gdh (Nm.len (n := 36) (by with_reducible first | exact Nm.F2 _ | exact Nm.F6 _ | assumption | exact nm_N36d | exact nm_Z36 | exact nm_O36l | exact nm_V36d | exact nm_C36d | exact nm_X36d | (refine Nm.seg (m := 36) ?_ (by decide); assumption) | exact Nm.seg (m := 36) (Nm.F6 _) (by decide) | exact Nm.app3 (.F2 _) (.F2 _) (.F2 _) | fail)) (Nm.len (n := 36) (by with_reducible first | exact Nm.F2 _ | exact Nm.F6 _ | assumption | exact nm_N36d | exact nm_Z36 | exact nm_O36l | exact nm_V36d | exact nm_C36d | exact nm_X36d | (refine Nm.seg (m := 36) ?_ (by decide); assumption) | exact Nm.seg (m := 36) (Nm.F6 _) (by decide) | exact Nm.app3 (.F2 _) (.F2 _) (.F2 _) | fail)) (by with_reducible first | rfl | exact fld3 _ _ _ | exact fld4 _ _ _ | exact fld5 _ _ _ | exact fld1 _ _ | exact fld2 _ _ | exact fld6 _ | exact fld7 _ _) ?_
    | refine take_load (by rfl) 26 (by rfl) (g := S) (n := 12) (by rfl) (t := 28) (xs := a) (fun w hw => hw.has qa3 (Nat.ne_of_lt qa3.lt)) Tryd.underlying26 rfl (by kernel_rfl) (by rw [ha.len]; decide) ?_
    | refine take_loadw (by rfl) 28 (by rfl) (g := S) (n := 36) (by rfl) (t := 28) (xs := a) (fun w hw => hw.has qa3 (Nat.ne_of_lt qa3.lt)) Tryd.underlying28 rfl (by kernel_rfl) ha.len ?_
    | refine take_load (by rfl) 26 (by rfl) (g := S + 1) (n := 12) (by rfl) (t := 28) (xs := b) (fun w hw => hw.has qb3 (Nat.ne_of_lt qb3.lt)) Tryd.underlying26 rfl (by kernel_rfl) (by rw [hb.len]; decide) ?_
    | refine take_loadw (by rfl) 28 (by rfl) (g := S + 1) (n := 36) (by rfl) (t := 28) (xs := b) (fun w hw => hw.has qb3 (Nat.ne_of_lt qb3.lt)) Tryd.underlying28 rfl (by kernel_rfl) hb.len ?_
    | refine take_load (by rfl) 26 (by rfl) (g := S + 2) (n := 12) (by rfl) (t := 28) (xs := c) (fun w hw => hw.has qc3 (Nat.ne_of_lt qc3.lt)) Tryd.underlying26 rfl (by kernel_rfl) (by rw [hc.len]; decide) ?_
    | refine take_loadw (by rfl) 28 (by rfl) (g := S + 2) (n := 36) (by rfl) (t := 28) (xs := c) (fun w hw => hw.has qc3 (Nat.ne_of_lt qc3.lt)) Tryd.underlying28 rfl (by kernel_rfl) hc.len ?_
    | refine wpTake_cons (.inl ⟨by rfl, fun w hw => (by unfold Oper.quietAt; go_simp; (first | with_reducible refine lRed6 _ ?_ _ (HG.out _ (hb3.trans (hw.below (HSS.out _ hb3) (HSS.out _ hb3)))) | with_reducible refine lAdd6 _ ?_ _ ?_ _ (HG.out _ (hb3.trans (hw.below (HSS.out _ hb3) (HSS.out _ hb3)))) | with_reducible refine lSub6 _ ?_ _ ?_ _ (HG.out _ (hb3.trans (hw.below (HSS.out _ hb3) (HSS.out _ hb3)))) | with_reducible refine lNeg6 _ ?_ _ (HG.out _ (hb3.trans (hw.below (HSS.out _ hb3) (HSS.out _ hb3)))) | with_reducible refine lMul6 _ ?_ _ ?_ _ (HG.out _ (hb3.trans (hw.below (HSS.out _ hb3) (HSS.out _ hb3)))) | with_reducible refine lInv6 _ ?_ _ (HD.out _ (hb3.trans (hw.below (HSS.out _ hb3) (HSS.out _ hb3)))) | with_reducible refine lScale6 _ ?_ _ ?_ _ (HG.out _ (hb3.trans (hw.below (HSS.out _ hb3) (HSS.out _ hb3)))) | with_reducible refine lV6 _ ?_ _ (HG.out _ (hb3.trans (hw.below (HSS.out _ hb3) (HSS.out _ hb3)))) | with_reducible refine one_c _) <;> (with_reducible first | exact Nm.F2 _ | exact Nm.F6 _ | assumption | exact nm_N36d | exact nm_Z36 | exact nm_O36l | exact nm_V36d | exact nm_C36d | exact nm_X36d | (refine Nm.seg (m := 36) ?_ (by decide); assumption) | exact Nm.seg (m := 36) (Nm.F6 _) (by decide) | exact Nm.app3 (.F2 _) (.F2 _) (.F2 _) | fail))⟩) ?_
    | refine wpTake_cons (Steady.of_yields (Or.inl ⟨by rfl, fun w => (by first | (go_simp; done) | (go_simp; with_reducible rfl))⟩)) ?_); simp only [List.getElem_toArray, List.getElem_cons_zero, List.getElem_cons_succ, Act.put, List.setIfInBounds_toArray, List.set_cons_zero, List.set_cons_succ])
  refine wpTake_nil ?_
  refine wpAnyU_end (by kernel_rfl) (fun w4 hq0 => ?_)
  have hq := (drawn_below w3).trans hq0
  have qa4 := qa3.keep hq
  have qb4 := qb3.keep hq
  have qc4 := qc3.keep hq
  have hb4 := hb3.trans (hq.mono (HSS.out _ hb3))
  clear hq0 hq hb3 qa3 qb3 qc3
  go_wp2
  go_ret
  exact ⟨rfl, hb4⟩

end Go.Proofs.YtpkbbdhpdplkeaaDoor.Fp6
