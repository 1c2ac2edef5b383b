/-
  Own text. The contracts of layer 9's reference: V, Inv.
-/
import Derived.Test.YtpkbbdhpdplkeaaDoorFp6Ref2
namespace Go.Proofs.YtpkbbdhpdplkeaaDoor.Fp6
set_option linter.unusedVariables false
set_option linter.unusedSimpArgs false
open Go Go.RowKit Go.Proofs.YtpkbbdhpdplkeaaDoor.Reg Go.Proofs.YtpkbbdhpdplkeaaDoor.Base Go.Proofs.YtpkbbdhpdplkeaaDoor.Limb Go.Proofs.YtpkbbdhpdplkeaaDoor.Fp Go.Proofs.YtpkbbdhpdplkeaaDoor.Fp2

set_option maxRecDepth 100000 in
set_option maxHeartbeats 4000000 in
theorem refV6 (a : List Int) (ha : Nm 36 a) (w : World) : Calls Tryd.prog 25 #[.agg (vals .u64 a)] w fun e w' => e = .returned (.agg (vals .u64 (F6 (hv (v6 a))))) ∧ Below w.heap.size w w' := by
  obtain ⟨S, hS⟩ : ∃ S, w.heap.size = S := ⟨_, rfl⟩
  have Lo : Keep (Fp6.Z36.length = 36) := ⟨rfl⟩
  have qa0 : Has ((w.alloc (.cells (vals .u64 a) 28)).alloc (.cells (vals .u64 Fp6.Z36) 28)) (S) 28 (vals .u64 a) := ((Has.new' _ hS.symm _ _).alloc _)
  have qo0 : Has ((w.alloc (.cells (vals .u64 a) 28)).alloc (.cells (vals .u64 Fp6.Z36) 28)) (S + 1) 28 (vals .u64 Fp6.Z36) := (Has.new' _ (by simp only [World.size_alloc, hS]) _ _)
  have hb0 : Below S w ((w.alloc (.cells (vals .u64 a) 28)).alloc (.cells (vals .u64 Fp6.Z36) 28)) := by rw [← hS]; exact (((Below.refl _ _).alloc (Nat.le_refl _) _).alloc (by simp <;> omega) _)
  have hsz0 : ((w.alloc (.cells (vals .u64 a) 28)).alloc (.cells (vals .u64 Fp6.Z36) 28)).heap.size = S + 2 := by simp only [World.size_alloc, hS]
  have HSS : Keep (∀ x : World, Below S w x → S ≤ x.heap.size) := ⟨fun x hb => Nat.le_trans (by omega) hb.size⟩
  rw [hS]
  go_enter Tryd.func25, Tryd.ntmps25
  go_wp2_with (first
    | (refine store_abs2 (by rfl) 28 (.tmp 2) (.tmp 7) (by rfl) (by rfl) (S + 1) (vals .u64 (F6 (hm (v6 a) (v6 [0, 0, 0, 0, 0, 0, 0, 0, 0, 0, 0, 0, 1, 0, 0, 0, 0, 0, 0, 0, 0, 0, 0, 0, 0, 0, 0, 0, 0, 0, 0, 0, 0, 0, 0, 0])))) (by rfl) (by rfl) 28 _ qo1 (by rw [vals_size, (Nm.F6 _).len]; kernel_rfl) (by rw [vals_size, vals_size, (Nm.F6 _).len, Lo.out]) vals_one ?_
       intro w2 qo2 hkeep hbg
       have qa2 := hkeep _ _ _ qa1 (by omega)
       have hb2 := hb1.trans (hbg.mono (by omega))
       clear hkeep hbg hb1 qa1 qo1)
    | (have hq0 := hb0
       clear hq0
       go_at_call 21
       refine (refMul6 a ha [0, 0, 0, 0, 0, 0, 0, 0, 0, 0, 0, 0, 1, 0, 0, 0, 0, 0, 0, 0, 0, 0, 0, 0, 0, 0, 0, 0, 0, 0, 0, 0, 0, 0, 0, 0] nm_V36 _).mono ?_
       rintro e w1 ⟨rfl, hq⟩
       have qa1 := qa0.keep hq
       have qo1 := qo0.keep hq
       have hb1 := hb0.trans (hq.mono (HSS.out _ hb0))
       clear hq hb0 qa0 qo0)
    | (refine wpList_buildTo (by rfl) 28 #[(1, .tmp 5)] (by rfl) (some 6) (by rfl) (vals .u64 [0, 0, 0, 0, 0, 0, 0, 0, 0, 0, 0, 0, 1, 0, 0, 0, 0, 0, 0, 0, 0, 0, 0, 0, 0, 0, 0, 0, 0, 0, 0, 0, 0, 0, 0, 0]) (by kernel_rfl) ?_)
    | (refine wpList_buildTo (by rfl) 26 #[(0, .tmp 4)] (by rfl) (some 5) (by rfl) (vals .u64 [1, 0, 0, 0, 0, 0, 0, 0, 0, 0, 0, 0]) (by kernel_rfl) ?_)
    | (refine wpList_buildTo (by rfl) 24 #[(0, .const (.int .u64 1))] (by rfl) (some 4) (by rfl) (vals .u64 [1, 0, 0, 0, 0, 0]) (by kernel_rfl) ?_)
    | (refine wpList_load_row rfl 28 (.tmp 1) rfl (S) rfl _ _ _ _ qa0.eq Tryd.underlying28 rfl (by rw [vals_size, ha.len]; kernel_rfl) ?_))
  refine bodyPost_ret (v := .agg (vals .u64 _)) (results_cell_row rfl _ _ (S + 1) _ _ _ _ rfl qo2.eq Tryd.underlying28 rfl (by rw [vals_size, (Nm.F6 _).len]; kernel_rfl)) rfl ⟨ret_eq (congrArg (fun z => Value.agg (vals .u64 z)) (show _ = F6 (hv (v6 a)) by rw [v6_V36, hm_v])), hb2⟩

theorem v6_app {x y z : List Int} (h : Nm 12 x) (h' : Nm 12 y) (h'' : Nm 12 z) : v6 (x ++ y ++ z) = (v2 x, v2 y, v2 z) := by
  have e1 : seg 0 12 (x ++ y ++ z) = x := by
    show (x ++ y ++ z).take 12 = x
    rw [List.append_assoc, List.take_left' h.len]
  have e2 : seg 12 12 (x ++ y ++ z) = y := by
    rw [seg, List.append_assoc, List.drop_left' h.len, List.take_left' h'.len]
  have e3 : seg 24 12 (x ++ y ++ z) = z := by
    rw [seg, List.drop_left' (h.app h').len, List.take_of_length_le (by rw [h''.len]; omega)]
  rw [v6, e1, e2, e3]
theorem inv6_c (a : List Int) : E6 (v6 ((F2 (gs (v2 (F2 (gm (v2 (seg 0 12 a)) (v2 (seg 0 12 a))))) (v2 (F2 (gm (v2 (F2 (gm (v2 (seg 12 12 a)) (v2 (seg 24 12 a))))) (1, 1)))))) ++ (F2 (gs (v2 (F2 (gm (v2 (F2 (gm (v2 (seg 24 12 a)) (v2 (seg 24 12 a))))) (1, 1)))) (v2 (F2 (gm (v2 (seg 0 12 a)) (v2 (seg 12 12 a))))))) ++ (F2 (gs (v2 (F2 (gm (v2 (seg 12 12 a)) (v2 (seg 12 12 a))))) (v2 (F2 (gm (v2 (seg 0 12 a)) (v2 (seg 24 12 a))))))))) (hc (v6 a)) := by
  rw [v6_app (.F2 _) (.F2 _) (.F2 _)]
  exact ⟨(v2_F2 _).trans (gs_congr (v2_F2 _) ((v2_F2 _).trans (gm_congr (v2_F2 _) E2.rfl))), (v2_F2 _).trans (gs_congr ((v2_F2 _).trans (gm_congr (v2_F2 _) E2.rfl)) (v2_F2 _)), (v2_F2 _).trans (gs_congr (v2_F2 _) (v2_F2 _))⟩
theorem inv6_v (a : List Int) : E6 (hk (v6 ((F2 (gs (v2 (F2 (gm (v2 (seg 0 12 a)) (v2 (seg 0 12 a))))) (v2 (F2 (gm (v2 (F2 (gm (v2 (seg 12 12 a)) (v2 (seg 24 12 a))))) (1, 1)))))) ++ (F2 (gs (v2 (F2 (gm (v2 (F2 (gm (v2 (seg 24 12 a)) (v2 (seg 24 12 a))))) (1, 1)))) (v2 (F2 (gm (v2 (seg 0 12 a)) (v2 (seg 12 12 a))))))) ++ (F2 (gs (v2 (F2 (gm (v2 (seg 12 12 a)) (v2 (seg 12 12 a))))) (v2 (F2 (gm (v2 (seg 0 12 a)) (v2 (seg 24 12 a))))))))) (v2 (F2 (gi (v2 (seg 0 12 (F6 (hm (v6 a) (v6 ((F2 (gs (v2 (F2 (gm (v2 (seg 0 12 a)) (v2 (seg 0 12 a))))) (v2 (F2 (gm (v2 (F2 (gm (v2 (seg 12 12 a)) (v2 (seg 24 12 a))))) (1, 1)))))) ++ (F2 (gs (v2 (F2 (gm (v2 (F2 (gm (v2 (seg 24 12 a)) (v2 (seg 24 12 a))))) (1, 1)))) (v2 (F2 (gm (v2 (seg 0 12 a)) (v2 (seg 12 12 a))))))) ++ (F2 (gs (v2 (F2 (gm (v2 (seg 12 12 a)) (v2 (seg 12 12 a))))) (v2 (F2 (gm (v2 (seg 0 12 a)) (v2 (seg 24 12 a))))))))))))))))) (hi (v6 a)) := by
  refine hk_congr (inv6_c a) ((v2_F2 _).trans (gi_congr ?_))
  rw [seg_F6a]
  exact (v2_F2 _).trans (hm_congr E6.rfl (inv6_c a)).1

set_option maxRecDepth 100000 in
set_option maxHeartbeats 4000000 in
theorem refInv6 (a : List Int) (ha : Nm 36 a) (w : World) : Calls Tryd.prog 23 #[.agg (vals .u64 a)] w fun e w' => e = .returned (.agg (vals .u64 (F6 (hi (v6 a))))) ∧ Below w.heap.size w w' := by
  obtain ⟨C0, hC0⟩ : ∃ z, ((F2 (gs (v2 (F2 (gm (v2 (seg 0 12 a)) (v2 (seg 0 12 a))))) (v2 (F2 (gm (v2 (F2 (gm (v2 (seg 12 12 a)) (v2 (seg 24 12 a))))) (1, 1)))))) ++ (F2 (gs (v2 (F2 (gm (v2 (F2 (gm (v2 (seg 24 12 a)) (v2 (seg 24 12 a))))) (1, 1)))) (v2 (F2 (gm (v2 (seg 0 12 a)) (v2 (seg 12 12 a))))))) ++ (F2 (gs (v2 (F2 (gm (v2 (seg 12 12 a)) (v2 (seg 12 12 a))))) (v2 (F2 (gm (v2 (seg 0 12 a)) (v2 (seg 24 12 a)))))))) = z := ⟨_, rfl⟩
  have HC : Keep (((F2 (gs (v2 (F2 (gm (v2 (seg 0 12 a)) (v2 (seg 0 12 a))))) (v2 (F2 (gm (v2 (F2 (gm (v2 (seg 12 12 a)) (v2 (seg 24 12 a))))) (1, 1)))))) ++ (F2 (gs (v2 (F2 (gm (v2 (F2 (gm (v2 (seg 24 12 a)) (v2 (seg 24 12 a))))) (1, 1)))) (v2 (F2 (gm (v2 (seg 0 12 a)) (v2 (seg 12 12 a))))))) ++ (F2 (gs (v2 (F2 (gm (v2 (seg 12 12 a)) (v2 (seg 12 12 a))))) (v2 (F2 (gm (v2 (seg 0 12 a)) (v2 (seg 24 12 a)))))))) = C0) := ⟨hC0⟩
  have nC : Nm 36 C0 := hC0 ▸ Nm.app3 (.F2 _) (.F2 _) (.F2 _)
  have KB : Keep (Tryd.prog.built 28 [(0, .agg (vals .u64 (F2 (gs (v2 (F2 (gm (v2 (seg 0 12 a)) (v2 (seg 0 12 a))))) (v2 (F2 (gm (v2 (F2 (gm (v2 (seg 12 12 a)) (v2 (seg 24 12 a))))) (1, 1)))))))), (1, .agg (vals .u64 (F2 (gs (v2 (F2 (gm (v2 (F2 (gm (v2 (seg 24 12 a)) (v2 (seg 24 12 a))))) (1, 1)))) (v2 (F2 (gm (v2 (seg 0 12 a)) (v2 (seg 12 12 a))))))))), (2, .agg (vals .u64 (F2 (gs (v2 (F2 (gm (v2 (seg 12 12 a)) (v2 (seg 12 12 a))))) (v2 (F2 (gm (v2 (seg 0 12 a)) (v2 (seg 24 12 a)))))))))] = some (vals .u64 C0)) := ⟨hC0 ▸ build3 (.F2 _) (.F2 _) (.F2 _)⟩
  clear hC0
  obtain ⟨S, hS⟩ : ∃ S, w.heap.size = S := ⟨_, rfl⟩
  have Lo : Keep (Fp6.Z36.length = 36) := ⟨rfl⟩
  have qa0 : Has ((w.alloc (.cells (vals .u64 a) 28)).alloc (.cells (vals .u64 Fp6.Z36) 28)) (S) 28 (vals .u64 a) := ((Has.new' _ hS.symm _ _).alloc _)
  have qo0 : Has ((w.alloc (.cells (vals .u64 a) 28)).alloc (.cells (vals .u64 Fp6.Z36) 28)) (S + 1) 28 (vals .u64 Fp6.Z36) := (Has.new' _ (by simp only [World.size_alloc, hS]) _ _)
  have hb0 : Below S w ((w.alloc (.cells (vals .u64 a) 28)).alloc (.cells (vals .u64 Fp6.Z36) 28)) := by rw [← hS]; exact (((Below.refl _ _).alloc (Nat.le_refl _) _).alloc (by simp <;> omega) _)
  have hsz0 : ((w.alloc (.cells (vals .u64 a) 28)).alloc (.cells (vals .u64 Fp6.Z36) 28)).heap.size = S + 2 := by simp only [World.size_alloc, hS]
  have HSS : Keep (∀ x : World, Below S w x → S ≤ x.heap.size) := ⟨fun x hb => Nat.le_trans (by omega) hb.size⟩
  rw [hS]
  go_enter Tryd.func23, Tryd.ntmps23
  go_wp2
  change Code.wp _ _ _ _ (((w.alloc (.cells (vals .u64 a) 28)).alloc (.cells (vals .u64 Fp6.Z36) 28)))
  obtain ⟨w0, hw0⟩ : ∃ x, ((w.alloc (.cells (vals .u64 a) 28)).alloc (.cells (vals .u64 Fp6.Z36) 28)) = x := ⟨_, rfl⟩
  rw [hw0] at hb0 hsz0 qa0 qo0 ⊢
  clear hw0
  refine wp_reads 12 2 w0.heap.size (by kernel_rfl) (by kernel_rfl) (by rfl) (by kernel_rfl) (fun _ _ d _ _ h => by cases d <;> exact h) ?_
  simp only [List.take_succ_cons, List.take_zero]
  repeat ((first
    | refine take_load (by rfl) 26 (by rfl) (g := S) (n := 12) (by rfl) (t := 28) (xs := a) (fun w hw => hw.has qa0 (Nat.ne_of_lt qa0.lt)) Tryd.underlying26 rfl (by kernel_rfl) (by rw [ha.len]; decide) ?_
    | refine take_loadw (by rfl) 28 (by rfl) (g := S) (n := 36) (by rfl) (t := 28) (xs := a) (fun w hw => hw.has qa0 (Nat.ne_of_lt qa0.lt)) Tryd.underlying28 rfl (by kernel_rfl) ha.len ?_
    | refine take_load (by rfl) 26 (by rfl) (g := S + 1) (n := 12) (by rfl) (t := 28) (xs := Fp6.Z36) (fun w hw => hw.has qo0 (Nat.ne_of_lt qo0.lt)) Tryd.underlying26 rfl (by kernel_rfl) (by rw [Lo.out]; decide) ?_
    | refine take_loadw (by rfl) 28 (by rfl) (g := S + 1) (n := 36) (by rfl) (t := 28) (xs := Fp6.Z36) (fun w hw => hw.has qo0 (Nat.ne_of_lt qo0.lt)) Tryd.underlying28 rfl (by kernel_rfl) Lo.out ?_
    | refine take_build (by rfl) (by rfl) (by refine build3 ?_ ?_ ?_ <;> (with_reducible first | exact Nm.F2 _ | exact Nm.F6 _ | assumption | (refine Nm.seg (m := 36) ?_ (by decide); assumption) | exact Nm.seg (m := 36) (Nm.F6 _) (by decide) | exact Nm.app3 (.F2 _) (.F2 _) (.F2 _) | fail)) ?_
    | refine wpTake_cons (.inl ⟨by rfl, fun w hw => (by unfold Oper.quietAt; go_simp; (first | with_reducible refine refRed2 _ ?_ _ | with_reducible refine refAdd2 _ ?_ _ ?_ _ | with_reducible refine refSub2 _ ?_ _ ?_ _ | with_reducible refine refMul2 _ ?_ _ ?_ _ | with_reducible refine refNeg2 _ ?_ _ | with_reducible refine refXi2 _ ?_ _ | with_reducible refine refMul6 _ ?_ _ ?_ _ | with_reducible refine refScale6 _ ?_ _ ?_ _ | with_reducible refine refInv2 _ ?_ _) <;> (with_reducible first | exact Nm.F2 _ | exact Nm.F6 _ | assumption | (refine Nm.seg (m := 36) ?_ (by decide); assumption) | exact Nm.seg (m := 36) (Nm.F6 _) (by decide) | exact Nm.app3 (.F2 _) (.F2 _) (.F2 _) | fail))⟩) ?_
    | refine wpTake_cons (Steady.of_yields (Or.inl ⟨by rfl, fun w => (by first | (go_simp; done) | (go_simp; with_reducible rfl))⟩)) ?_); simp only [List.getElem_toArray, List.getElem_cons_zero, List.getElem_cons_succ, Act.put, List.setIfInBounds_toArray, List.set_cons_zero, List.set_cons_succ])
  refine wpTake_nil ?_
  refine tail_new (i := 12) (j := 13) (by rfl) (by rfl) (by kernel_rfl) (by kernel_rfl) (by kernel_rfl) (by rfl) 26 3 (by rfl) (by rfl) (by rfl) (.tmp 3) (.tmp 19) (by rfl) (by rfl) _ (vals .u64 Fp2.Z12) (fun _ => by rfl) (fun _ => by rfl) (by exact ⟨_, _, rfl, rfl, by kernel_rfl⟩) (by rw [vals_size, (Nm.F2 _).len]; kernel_rfl) (by rw [vals_size, vals_size, (Nm.F2 _).len]; rfl) vals_one ?_
  intro w1 gu1 hgu1 qu11 hbt
  simp only [List.getElem_toArray, List.getElem_cons_zero, List.getElem_cons_succ, Act.put, List.setIfInBounds_toArray, List.set_cons_zero, List.set_cons_succ]
  have qa1 := qa0.keep hbt
  have Nau1 := Nat.lt_of_lt_of_le qa0.lt hgu1
  have qo1 := qo0.keep hbt
  have Nou1 := Nat.lt_of_lt_of_le qo0.lt hgu1
  have hb1 := hb0.trans (hbt.mono (HSS.out _ hb0))
  have Mu1 : S ≤ gu1 := Nat.le_trans (HSS.out _ hb0) hgu1
  clear hbt hgu1 hb0 qa0 qo0
  go_wp2
  refine wp_reads 12 2 w1.heap.size (by kernel_rfl) (by kernel_rfl) (by rfl) (by kernel_rfl) (fun _ _ d _ _ h => by cases d <;> exact h) ?_
  simp only [List.take_succ_cons, List.take_zero]
  repeat ((first
    | refine take_load (by rfl) 26 (by rfl) (g := S) (n := 12) (by rfl) (t := 28) (xs := a) (fun w hw => hw.has qa1 (Nat.ne_of_lt qa1.lt)) Tryd.underlying26 rfl (by kernel_rfl) (by rw [ha.len]; decide) ?_
    | refine take_loadw (by rfl) 28 (by rfl) (g := S) (n := 36) (by rfl) (t := 28) (xs := a) (fun w hw => hw.has qa1 (Nat.ne_of_lt qa1.lt)) Tryd.underlying28 rfl (by kernel_rfl) ha.len ?_
    | refine take_load (by rfl) 26 (by rfl) (g := S + 1) (n := 12) (by rfl) (t := 28) (xs := Fp6.Z36) (fun w hw => hw.has qo1 (Nat.ne_of_lt qo1.lt)) Tryd.underlying26 rfl (by kernel_rfl) (by rw [Lo.out]; decide) ?_
    | refine take_loadw (by rfl) 28 (by rfl) (g := S + 1) (n := 36) (by rfl) (t := 28) (xs := Fp6.Z36) (fun w hw => hw.has qo1 (Nat.ne_of_lt qo1.lt)) Tryd.underlying28 rfl (by kernel_rfl) Lo.out ?_
    | refine take_loadw (by rfl) 26 (by rfl) (g := gu1) (n := 12) (by rfl) (t := 26) (xs := (F2 (gs (v2 (F2 (gm (v2 (seg 0 12 a)) (v2 (seg 0 12 a))))) (v2 (F2 (gm (v2 (F2 (gm (v2 (seg 12 12 a)) (v2 (seg 24 12 a))))) (1, 1))))))) (fun w hw => hw.has qu11 (Nat.ne_of_lt qu11.lt)) Tryd.underlying26 rfl (by kernel_rfl) (Nm.F2 _).len ?_
    | refine take_build (by rfl) (by rfl) (by refine build3 ?_ ?_ ?_ <;> (with_reducible first | exact Nm.F2 _ | exact Nm.F6 _ | assumption | (refine Nm.seg (m := 36) ?_ (by decide); assumption) | exact Nm.seg (m := 36) (Nm.F6 _) (by decide) | exact Nm.app3 (.F2 _) (.F2 _) (.F2 _) | fail)) ?_
    | refine wpTake_cons (.inl ⟨by rfl, fun w hw => (by unfold Oper.quietAt; go_simp; (first | with_reducible refine refRed2 _ ?_ _ | with_reducible refine refAdd2 _ ?_ _ ?_ _ | with_reducible refine refSub2 _ ?_ _ ?_ _ | with_reducible refine refMul2 _ ?_ _ ?_ _ | with_reducible refine refNeg2 _ ?_ _ | with_reducible refine refXi2 _ ?_ _ | with_reducible refine refMul6 _ ?_ _ ?_ _ | with_reducible refine refScale6 _ ?_ _ ?_ _ | with_reducible refine refInv2 _ ?_ _) <;> (with_reducible first | exact Nm.F2 _ | exact Nm.F6 _ | assumption | (refine Nm.seg (m := 36) ?_ (by decide); assumption) | exact Nm.seg (m := 36) (Nm.F6 _) (by decide) | exact Nm.app3 (.F2 _) (.F2 _) (.F2 _) | fail))⟩) ?_
    | refine wpTake_cons (Steady.of_yields (Or.inl ⟨by rfl, fun w => (by first | (go_simp; done) | (go_simp; with_reducible rfl))⟩)) ?_); simp only [List.getElem_toArray, List.getElem_cons_zero, List.getElem_cons_succ, Act.put, List.setIfInBounds_toArray, List.set_cons_zero, List.set_cons_succ])
  refine wpTake_nil ?_
  refine tail_new (i := 12) (j := 13) (by rfl) (by rfl) (by kernel_rfl) (by kernel_rfl) (by kernel_rfl) (by rfl) 26 4 (by rfl) (by rfl) (by rfl) (.tmp 4) (.tmp 31) (by rfl) (by rfl) _ (vals .u64 Fp2.Z12) (fun _ => by rfl) (fun _ => by rfl) (by exact ⟨_, _, rfl, rfl, by kernel_rfl⟩) (by rw [vals_size, (Nm.F2 _).len]; kernel_rfl) (by rw [vals_size, vals_size, (Nm.F2 _).len]; rfl) vals_one ?_
  intro w2 gu2 hgu2 qu22 hbt
  simp only [List.getElem_toArray, List.getElem_cons_zero, List.getElem_cons_succ, Act.put, List.setIfInBounds_toArray, List.set_cons_zero, List.set_cons_succ]
  have qa2 := qa1.keep hbt
  have Nau2 := Nat.lt_of_lt_of_le qa1.lt hgu2
  have qo2 := qo1.keep hbt
  have Nou2 := Nat.lt_of_lt_of_le qo1.lt hgu2
  have qu12 := qu11.keep hbt
  have Nu1u2 := Nat.lt_of_lt_of_le qu11.lt hgu2
  have hb2 := hb1.trans (hbt.mono (HSS.out _ hb1))
  have Mu2 : S ≤ gu2 := Nat.le_trans (HSS.out _ hb1) hgu2
  clear hbt hgu2 hb1 qa1 qo1 qu11
  go_wp2
  refine wp_reads 11 2 w2.heap.size (by kernel_rfl) (by kernel_rfl) (by rfl) (by kernel_rfl) (fun _ _ d _ _ h => by cases d <;> exact h) ?_
  simp only [List.take_succ_cons, List.take_zero]
  repeat ((first
    | refine take_load (by rfl) 26 (by rfl) (g := S) (n := 12) (by rfl) (t := 28) (xs := a) (fun w hw => hw.has qa2 (Nat.ne_of_lt qa2.lt)) Tryd.underlying26 rfl (by kernel_rfl) (by rw [ha.len]; decide) ?_
    | refine take_loadw (by rfl) 28 (by rfl) (g := S) (n := 36) (by rfl) (t := 28) (xs := a) (fun w hw => hw.has qa2 (Nat.ne_of_lt qa2.lt)) Tryd.underlying28 rfl (by kernel_rfl) ha.len ?_
    | refine take_load (by rfl) 26 (by rfl) (g := S + 1) (n := 12) (by rfl) (t := 28) (xs := Fp6.Z36) (fun w hw => hw.has qo2 (Nat.ne_of_lt qo2.lt)) Tryd.underlying26 rfl (by kernel_rfl) (by rw [Lo.out]; decide) ?_
    | refine take_loadw (by rfl) 28 (by rfl) (g := S + 1) (n := 36) (by rfl) (t := 28) (xs := Fp6.Z36) (fun w hw => hw.has qo2 (Nat.ne_of_lt qo2.lt)) Tryd.underlying28 rfl (by kernel_rfl) Lo.out ?_
    | refine take_loadw (by rfl) 26 (by rfl) (g := gu1) (n := 12) (by rfl) (t := 26) (xs := (F2 (gs (v2 (F2 (gm (v2 (seg 0 12 a)) (v2 (seg 0 12 a))))) (v2 (F2 (gm (v2 (F2 (gm (v2 (seg 12 12 a)) (v2 (seg 24 12 a))))) (1, 1))))))) (fun w hw => hw.has qu12 (Nat.ne_of_lt qu12.lt)) Tryd.underlying26 rfl (by kernel_rfl) (Nm.F2 _).len ?_
    | refine take_loadw (by rfl) 26 (by rfl) (g := gu2) (n := 12) (by rfl) (t := 26) (xs := (F2 (gs (v2 (F2 (gm (v2 (F2 (gm (v2 (seg 24 12 a)) (v2 (seg 24 12 a))))) (1, 1)))) (v2 (F2 (gm (v2 (seg 0 12 a)) (v2 (seg 12 12 a)))))))) (fun w hw => hw.has qu22 (Nat.ne_of_lt qu22.lt)) Tryd.underlying26 rfl (by kernel_rfl) (Nm.F2 _).len ?_
    | refine take_build (by rfl) (by rfl) (by refine build3 ?_ ?_ ?_ <;> (with_reducible first | exact Nm.F2 _ | exact Nm.F6 _ | assumption | (refine Nm.seg (m := 36) ?_ (by decide); assumption) | exact Nm.seg (m := 36) (Nm.F6 _) (by decide) | exact Nm.app3 (.F2 _) (.F2 _) (.F2 _) | fail)) ?_
    | refine wpTake_cons (.inl ⟨by rfl, fun w hw => (by unfold Oper.quietAt; go_simp; (first | with_reducible refine refRed2 _ ?_ _ | with_reducible refine refAdd2 _ ?_ _ ?_ _ | with_reducible refine refSub2 _ ?_ _ ?_ _ | with_reducible refine refMul2 _ ?_ _ ?_ _ | with_reducible refine refNeg2 _ ?_ _ | with_reducible refine refXi2 _ ?_ _ | with_reducible refine refMul6 _ ?_ _ ?_ _ | with_reducible refine refScale6 _ ?_ _ ?_ _ | with_reducible refine refInv2 _ ?_ _) <;> (with_reducible first | exact Nm.F2 _ | exact Nm.F6 _ | assumption | (refine Nm.seg (m := 36) ?_ (by decide); assumption) | exact Nm.seg (m := 36) (Nm.F6 _) (by decide) | exact Nm.app3 (.F2 _) (.F2 _) (.F2 _) | fail))⟩) ?_
    | refine wpTake_cons (Steady.of_yields (Or.inl ⟨by rfl, fun w => (by first | (go_simp; done) | (go_simp; with_reducible rfl))⟩)) ?_); simp only [List.getElem_toArray, List.getElem_cons_zero, List.getElem_cons_succ, Act.put, List.setIfInBounds_toArray, List.set_cons_zero, List.set_cons_succ])
  refine wpTake_nil ?_
  refine tail_new (i := 11) (j := 12) (by rfl) (by rfl) (by kernel_rfl) (by kernel_rfl) (by kernel_rfl) (by rfl) 26 5 (by rfl) (by rfl) (by rfl) (.tmp 5) (.tmp 42) (by rfl) (by rfl) _ (vals .u64 Fp2.Z12) (fun _ => by rfl) (fun _ => by rfl) (by exact ⟨_, _, rfl, rfl, by kernel_rfl⟩) (by rw [vals_size, (Nm.F2 _).len]; kernel_rfl) (by rw [vals_size, vals_size, (Nm.F2 _).len]; rfl) vals_one ?_
  intro w3 gu3 hgu3 qu33 hbt
  simp only [List.getElem_toArray, List.getElem_cons_zero, List.getElem_cons_succ, Act.put, List.setIfInBounds_toArray, List.set_cons_zero, List.set_cons_succ]
  have qa3 := qa2.keep hbt
  have Nau3 := Nat.lt_of_lt_of_le qa2.lt hgu3
  have qo3 := qo2.keep hbt
  have Nou3 := Nat.lt_of_lt_of_le qo2.lt hgu3
  have qu13 := qu12.keep hbt
  have Nu1u3 := Nat.lt_of_lt_of_le qu12.lt hgu3
  have qu23 := qu22.keep hbt
  have Nu2u3 := Nat.lt_of_lt_of_le qu22.lt hgu3
  have hb3 := hb2.trans (hbt.mono (HSS.out _ hb2))
  have Mu3 : S ≤ gu3 := Nat.le_trans (HSS.out _ hb2) hgu3
  clear hbt hgu3 hb2 qa2 qo2 qu12 qu22
  go_wp2_with (first
    | (refine store_abs2 (by rfl) 28 (.tmp 7) (.tmp 49) (by rfl) (by rfl) (w5.heap.size) (vals .u64 (F6 (hm (v6 a) (v6 C0)))) (by rfl) (by rfl) 28 (vals .u64 Fp6.Z36) (Has.new' _ rfl _ _) (by rw [vals_size, (Nm.F6 _).len]; kernel_rfl) (by rw [vals_size, vals_size, (Nm.F6 _).len]; rfl) vals_one ?_
       intro w6 qu56 hkeep hbg
       have hbe := ((Below.refl w5.heap.size w5).alloc (Nat.le_refl _) (.cells (vals .u64 Fp6.Z36) 28)).trans hbg
       have Nau5 := qa5.lt
       have qa6 := qa5.keep hbe
       have Nou5 := qo5.lt
       have qo6 := qo5.keep hbe
       have Nu1u5 := qu15.lt
       have qu16 := qu15.keep hbe
       have Nu2u5 := qu25.lt
       have qu26 := qu25.keep hbe
       have Nu3u5 := qu35.lt
       have qu36 := qu35.keep hbe
       have Nu4u5 := qu45.lt
       have qu46 := qu45.keep hbe
       have Mu5 : S ≤ w5.heap.size := HSS.out _ hb5
       have hb6 := hb5.trans (hbe.mono Mu5)
       clear hkeep hbg hbe hb5 qa5 qo5 qu15 qu25 qu35 qu45)
    | (have hq0 := hb4
       clear hq0
       go_at_call 21
       refine (refMul6 a ha C0 nC _).mono ?_
       rintro e w5 ⟨rfl, hq⟩
       have qa5 := qa4.keep hq
       have qo5 := qo4.keep hq
       have qu15 := qu14.keep hq
       have qu25 := qu24.keep hq
       have qu35 := qu34.keep hq
       have qu45 := qu44.keep hq
       have hb5 := hb4.trans (hq.mono (HSS.out _ hb4))
       clear hq hb4 qa4 qo4 qu14 qu24 qu34 qu44)
    | (refine wpList_load_row rfl 28 (.tmp 6) rfl (w3.heap.size) rfl _ _ _ _ qu44.eq Tryd.underlying28 rfl (by rw [vals_size, nC.len]; kernel_rfl) ?_)
    | (refine wpList_load_row rfl 28 (.tmp 1) rfl (S) rfl _ _ _ _ qa4.eq Tryd.underlying28 rfl (by rw [vals_size, ha.len]; kernel_rfl) ?_)
    | (refine store_abs2 (by rfl) 28 (.tmp 6) (.tmp 46) (by rfl) (by rfl) (w3.heap.size) (vals .u64 C0) (by rfl) (by rfl) 28 (vals .u64 Fp6.Z36) (Has.new' _ rfl _ _) (by rw [vals_size, nC.len]; kernel_rfl) (by rw [vals_size, vals_size, nC.len]; rfl) vals_one ?_
       intro w4 qu44 hkeep hbg
       have hbe := ((Below.refl w3.heap.size w3).alloc (Nat.le_refl _) (.cells (vals .u64 Fp6.Z36) 28)).trans hbg
       have Nau4 := qa3.lt
       have qa4 := qa3.keep hbe
       have Nou4 := qo3.lt
       have qo4 := qo3.keep hbe
       have Nu1u4 := qu13.lt
       have qu14 := qu13.keep hbe
       have Nu2u4 := qu23.lt
       have qu24 := qu23.keep hbe
       have Nu3u4 := qu33.lt
       have qu34 := qu33.keep hbe
       have Mu4 : S ≤ w3.heap.size := HSS.out _ hb3
       have hb4 := hb3.trans (hbe.mono Mu4)
       clear hkeep hbg hbe hb3 qa3 qo3 qu13 qu23 qu33)
    | (refine wpList_buildTo (by rfl) 28 #[(0, .tmp 43), (1, .tmp 44), (2, .tmp 45)] (by rfl) (some 46) (by rfl) _ (by rw [Array.toList_map]; exact KB.out) ?_)
    | (refine wpList_load_row rfl 26 (.tmp 5) rfl (gu3) rfl _ _ _ _ qu33.eq Tryd.underlying26 rfl (by rw [vals_size, (Nm.F2 _).len]; kernel_rfl) ?_)
    | (refine wpList_load_row rfl 26 (.tmp 4) rfl (gu2) rfl _ _ _ _ qu23.eq Tryd.underlying26 rfl (by rw [vals_size, (Nm.F2 _).len]; kernel_rfl) ?_)
    | (refine wpList_load_row rfl 26 (.tmp 3) rfl (gu1) rfl _ _ _ _ qu13.eq Tryd.underlying26 rfl (by rw [vals_size, (Nm.F2 _).len]; kernel_rfl) ?_))
  refine wp_reads 5 1 (S + 1) (by kernel_rfl) (by kernel_rfl) (by rfl) (by kernel_rfl) (fun _ _ d _ _ h => by cases d <;> exact h) ?_
  simp only [List.take_succ_cons, List.take_zero]
  repeat ((first
    | refine take_load (by rfl) 26 (by rfl) (g := S) (n := 12) (by rfl) (t := 28) (xs := a) (fun w hw => hw.has qa6 (by omega)) Tryd.underlying26 rfl (by kernel_rfl) (by rw [ha.len]; decide) ?_
    | refine take_loadw (by rfl) 28 (by rfl) (g := S) (n := 36) (by rfl) (t := 28) (xs := a) (fun w hw => hw.has qa6 (by omega)) Tryd.underlying28 rfl (by kernel_rfl) ha.len ?_
    | refine take_loadw (by rfl) 26 (by rfl) (g := gu1) (n := 12) (by rfl) (t := 26) (xs := (F2 (gs (v2 (F2 (gm (v2 (seg 0 12 a)) (v2 (seg 0 12 a))))) (v2 (F2 (gm (v2 (F2 (gm (v2 (seg 12 12 a)) (v2 (seg 24 12 a))))) (1, 1))))))) (fun w hw => hw.has qu16 (by omega)) Tryd.underlying26 rfl (by kernel_rfl) (Nm.F2 _).len ?_
    | refine take_loadw (by rfl) 26 (by rfl) (g := gu2) (n := 12) (by rfl) (t := 26) (xs := (F2 (gs (v2 (F2 (gm (v2 (F2 (gm (v2 (seg 24 12 a)) (v2 (seg 24 12 a))))) (1, 1)))) (v2 (F2 (gm (v2 (seg 0 12 a)) (v2 (seg 12 12 a)))))))) (fun w hw => hw.has qu26 (by omega)) Tryd.underlying26 rfl (by kernel_rfl) (Nm.F2 _).len ?_
    | refine take_loadw (by rfl) 26 (by rfl) (g := gu3) (n := 12) (by rfl) (t := 26) (xs := (F2 (gs (v2 (F2 (gm (v2 (seg 12 12 a)) (v2 (seg 12 12 a))))) (v2 (F2 (gm (v2 (seg 0 12 a)) (v2 (seg 24 12 a)))))))) (fun w hw => hw.has qu36 (by omega)) Tryd.underlying26 rfl (by kernel_rfl) (Nm.F2 _).len ?_
    | refine take_load (by rfl) 26 (by rfl) (g := w3.heap.size) (n := 12) (by rfl) (t := 28) (xs := C0) (fun w hw => hw.has qu46 (by omega)) Tryd.underlying26 rfl (by kernel_rfl) (by rw [nC.len]; decide) ?_
    | refine take_loadw (by rfl) 28 (by rfl) (g := w3.heap.size) (n := 36) (by rfl) (t := 28) (xs := C0) (fun w hw => hw.has qu46 (by omega)) Tryd.underlying28 rfl (by kernel_rfl) nC.len ?_
    | refine take_load (by rfl) 26 (by rfl) (g := w5.heap.size) (n := 12) (by rfl) (t := 28) (xs := (F6 (hm (v6 a) (v6 C0)))) (fun w hw => hw.has qu56 (by omega)) Tryd.underlying26 rfl (by kernel_rfl) (by rw [(Nm.F6 _).len]; decide) ?_
    | refine take_loadw (by rfl) 28 (by rfl) (g := w5.heap.size) (n := 36) (by rfl) (t := 28) (xs := (F6 (hm (v6 a) (v6 C0)))) (fun w hw => hw.has qu56 (by omega)) Tryd.underlying28 rfl (by kernel_rfl) (Nm.F6 _).len ?_
    | refine take_build (by rfl) (by rfl) (by refine build3 ?_ ?_ ?_ <;> (with_reducible first | exact Nm.F2 _ | exact Nm.F6 _ | assumption | (refine Nm.seg (m := 36) ?_ (by decide); assumption) | exact Nm.seg (m := 36) (Nm.F6 _) (by decide) | exact Nm.app3 (.F2 _) (.F2 _) (.F2 _) | fail)) ?_
    | refine wpTake_cons (.inl ⟨by rfl, fun w hw => (by unfold Oper.quietAt; go_simp; (first | with_reducible refine refRed2 _ ?_ _ | with_reducible refine refAdd2 _ ?_ _ ?_ _ | with_reducible refine refSub2 _ ?_ _ ?_ _ | with_reducible refine refMul2 _ ?_ _ ?_ _ | with_reducible refine refNeg2 _ ?_ _ | with_reducible refine refXi2 _ ?_ _ | with_reducible refine refMul6 _ ?_ _ ?_ _ | with_reducible refine refScale6 _ ?_ _ ?_ _ | with_reducible refine refInv2 _ ?_ _) <;> (with_reducible first | exact Nm.F2 _ | exact Nm.F6 _ | assumption | (refine Nm.seg (m := 36) ?_ (by decide); assumption) | exact Nm.seg (m := 36) (Nm.F6 _) (by decide) | exact Nm.app3 (.F2 _) (.F2 _) (.F2 _) | fail))⟩) ?_
    | refine wpTake_cons (Steady.of_yields (Or.inl ⟨by rfl, fun w => (by first | (go_simp; done) | (go_simp; with_reducible rfl))⟩)) ?_); simp only [List.getElem_toArray, List.getElem_cons_zero, List.getElem_cons_succ, Act.put, List.setIfInBounds_toArray, List.set_cons_zero, List.set_cons_succ])
  refine wpTake_nil ?_
  refine tail_store (i := 5) (by rfl) (by kernel_rfl) (by kernel_rfl) (by rfl) 28 (.tmp 2) (.tmp 54) (by rfl) (by rfl) (S + 1) _ (by rfl) (by rfl) 28 _ qo6 (by rw [vals_size, (Nm.F6 _).len]; kernel_rfl) (by rw [vals_size, vals_size, (Nm.F6 _).len]; rfl) vals_one ?_
  intro w7 qo7 hbt
  have qa7 := hbt.has qa6 (by omega)
  have qu17 := hbt.has qu16 (by omega)
  have qu27 := hbt.has qu26 (by omega)
  have qu37 := hbt.has qu36 (by omega)
  have qu47 := hbt.has qu46 (by omega)
  have qu57 := hbt.has qu56 (by omega)
  have hb7 := hb6.trans (hbt.below (by omega) (HSS.out _ hb6))
  clear hbt hb6 qa6 qo6 qu16 qu26 qu36 qu46 qu56
  go_wp2
  refine bodyPost_ret (v := .agg (vals .u64 _)) (results_cell_row rfl _ _ (S + 1) _ _ _ _ rfl qo7.eq Tryd.underlying28 rfl (by rw [vals_size, (Nm.F6 _).len]; kernel_rfl)) rfl ⟨ret_eq (congrArg (fun z => Value.agg (vals .u64 z)) (by rw [← HC.out]; exact F6_eq (inv6_v a))), hb7⟩

end Go.Proofs.YtpkbbdhpdplkeaaDoor.Fp6
