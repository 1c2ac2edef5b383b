/-
  Own text. The walks of layer 7's statements: conjugates, the power of p, parts.
-/
import Derived.Test.YtdldebceailgdaaDoorFp2Awake
import Derived.Test.YtdldebceailgdaaDoorFp2Fp
import Derived.Test.YtdldebceailgdaaDoorFp2Own2
namespace Go.Proofs.YtdldebceailgdaaDoor.Fp2
set_option linter.unusedVariables false
set_option linter.unusedSimpArgs false
open Go Go.RowKit Go.Proofs.YtdldebceailgdaaDoor.Reg Go.Proofs.YtdldebceailgdaaDoor.Base Go.Proofs.YtdldebceailgdaaDoor.Limb Go.Proofs.YtdldebceailgdaaDoor.Fp

set_option maxRecDepth 100000 in
set_option maxHeartbeats 4000000 in
theorem conj_zero (a : List Int) (ha : Nm 12 a) (b : List Int) (hb : Nm 12 b) (w : World) (hG : GlobD w) (hz : Z2 (v2 a)) : Calls Tryd.prog 8 #[.agg (vals .u64 a), .agg (vals .u64 b)] w fun e w' => e = .returned (.bool true) ∧ Below w.heap.size w w' := by
  obtain ⟨S, hS⟩ : ∃ S, w.heap.size = S := ⟨_, rfl⟩
  have qa0 : Has ((w.alloc (.cells (vals .u64 a) 26)).alloc (.cells (vals .u64 b) 26)) (S) 26 (vals .u64 a) := ((Has.new' _ hS.symm _ _).alloc _)
  have qb0 : Has ((w.alloc (.cells (vals .u64 a) 26)).alloc (.cells (vals .u64 b) 26)) (S + 1) 26 (vals .u64 b) := (Has.new' _ (by simp only [World.size_alloc, hS]) _ _)
  have hb0 : Below S w ((w.alloc (.cells (vals .u64 a) 26)).alloc (.cells (vals .u64 b) 26)) := by rw [← hS]; exact (((Below.refl _ _).alloc (Nat.le_refl _) _).alloc (by simp <;> omega) _)
  have hsz0 : ((w.alloc (.cells (vals .u64 a) 26)).alloc (.cells (vals .u64 b) 26)).heap.size = S + 2 := by simp only [World.size_alloc, hS]
  have HSS : Keep (∀ x : World, Below S w x → S ≤ x.heap.size) := ⟨fun x hb => Nat.le_trans (by omega) hb.size⟩
  have HD : Keep (∀ x : World, Below S w x → GlobD x) := ⟨fun x hb => hG.keep (by rw [hS]; exact hb)⟩
  have HG : Keep (∀ x : World, Below S w x → Glob x) := ⟨fun x hb => (HD.out x hb).toGlob⟩
  clear hG
  have hx0 : Keep (F2 (v2 a) = [0, 0, 0, 0, 0, 0, 0, 0, 0, 0, 0, 0]) := ⟨(F2_zero _).2 hz⟩
  have hn0 : Keep ((fe (num (fe (num (seg 0 6 a) * num (seg 0 6 a))) + num (fe (num (seg 6 6 a) * num (seg 6 6 a))))) = Z6) := ⟨(nrm_zero a).2 hz⟩
  clear hz
  rw [hS]
  go_enter Tryd.func8, Tryd.ntmps8
  go_wp2_with (first
    | (have hq0 := hb0
       clear hq0
       go_at_call 11
       refine (awake_c _ (HD.out _ hb0)).mono ?_
       rintro e w1 ⟨rfl, hq⟩
       have qa1 := qa0.keep hq
       have qb1 := qb0.keep hq
       have hb1 := hb0.trans (hq.mono (HSS.out _ hb0))
       clear hq hb0 qa0 qb0))
  refine wp_reads 4 2 w1.heap.size (by kernel_rfl) (by kernel_rfl) (by rfl) (by kernel_rfl) (fun _ _ d _ _ h => by cases d <;> exact h) ?_
  simp only [List.take_succ_cons, List.take_zero]
  repeat ((first
    | refine take_load (by rfl) 24 (by rfl) (g := S) (n := 6) (by rfl) (t := 26) (xs := a) (fun w hw => hw.has qa1 (Nat.ne_of_lt qa1.lt)) Tryd.underlying24 rfl (by kernel_rfl) (by rw [ha.len]; decide) ?_
    | refine take_loadw (by rfl) 26 (by rfl) (g := S) (n := 12) (by rfl) (t := 26) (xs := a) (fun w hw => hw.has qa1 (Nat.ne_of_lt qa1.lt)) Tryd.underlying26 rfl (by kernel_rfl) ha.len ?_
    | refine take_load (by rfl) 24 (by rfl) (g := S + 1) (n := 6) (by rfl) (t := 26) (xs := b) (fun w hw => hw.has qb1 (Nat.ne_of_lt qb1.lt)) Tryd.underlying24 rfl (by kernel_rfl) (by rw [hb.len]; decide) ?_
    | refine take_loadw (by rfl) 26 (by rfl) (g := S + 1) (n := 12) (by rfl) (t := 26) (xs := b) (fun w hw => hw.has qb1 (Nat.ne_of_lt qb1.lt)) Tryd.underlying26 rfl (by kernel_rfl) hb.len ?_
    | refine take_build (by rfl) (by rfl) (by refine build2z ?_ <;> (with_reducible first | exact Nm.fe _ | exact Nm.F2 _ | assumption | exact nm_one | exact nm_Z6 | (refine Nm.seg (m := 12) ?_ (by decide); assumption) | exact Nm.seg (m := 12) (Nm.F2 _) (by decide) | exact Nm.app2 (.fe _) (.fe _) | exact nm_two | exact nm_rep | exact nm_Z12 | exact Nm.app2 nm_one nm_one | exact Nm.app2 nm_one nm_rep | exact Nm.app2 nm_rep nm_one | exact Nm.app2 nm_two nm_rep | (refine Nm.app2 ?_ nm_Z6; assumption) | exact Nm.app2 (.fe _) nm_Z6 | exact ⟨rfl, words_of _ (by decide)⟩ | fail)) ?_
    | refine wpTake_cons (.inl ⟨by rfl, fun w hw => (by unfold Oper.quietAt; go_simp; (first | with_reducible refine lRed2 _ ?_ _ (HG.out _ (hb1.trans (hw.below (HSS.out _ hb1) (HSS.out _ hb1)))) | with_reducible refine lAdd2 _ ?_ _ ?_ _ (HG.out _ (hb1.trans (hw.below (HSS.out _ hb1) (HSS.out _ hb1)))) | with_reducible refine lSub2 _ ?_ _ ?_ _ (HG.out _ (hb1.trans (hw.below (HSS.out _ hb1) (HSS.out _ hb1)))) | with_reducible refine lNeg2 _ ?_ _ (HG.out _ (hb1.trans (hw.below (HSS.out _ hb1) (HSS.out _ hb1)))) | with_reducible refine lMul2 _ ?_ _ ?_ _ (HG.out _ (hb1.trans (hw.below (HSS.out _ hb1) (HSS.out _ hb1)))) | with_reducible refine lInv2 _ ?_ _ (HD.out _ (hb1.trans (hw.below (HSS.out _ hb1) (HSS.out _ hb1)))) | with_reducible refine lConj2 _ ?_ _ (HG.out _ (hb1.trans (hw.below (HSS.out _ hb1) (HSS.out _ hb1)))) | with_reducible refine lXi2 _ ?_ _ (HG.out _ (hb1.trans (hw.below (HSS.out _ hb1) (HSS.out _ hb1)))) | with_reducible refine lScale2 _ ?_ _ ?_ _ (HG.out _ (hb1.trans (hw.below (HSS.out _ hb1) (HSS.out _ hb1))))) <;> (with_reducible first | exact Nm.fe _ | exact Nm.F2 _ | assumption | exact nm_one | exact nm_Z6 | (refine Nm.seg (m := 12) ?_ (by decide); assumption) | exact Nm.seg (m := 12) (Nm.F2 _) (by decide) | exact Nm.app2 (.fe _) (.fe _) | exact nm_two | exact nm_rep | exact nm_Z12 | exact Nm.app2 nm_one nm_one | exact Nm.app2 nm_one nm_rep | exact Nm.app2 nm_rep nm_one | exact Nm.app2 nm_two nm_rep | (refine Nm.app2 ?_ nm_Z6; assumption) | exact Nm.app2 (.fe _) nm_Z6 | exact ⟨rfl, words_of _ (by decide)⟩ | fail))⟩) ?_
    | refine wpTake_cons (Steady.of_yields (Or.inl ⟨by rfl, fun w => (by first | (go_simp; done) | (go_simp; with_reducible rfl))⟩)) ?_); simp only [List.getElem_toArray, List.getElem_cons_zero, List.getElem_cons_succ, Act.put, List.setIfInBounds_toArray, List.set_cons_zero, List.set_cons_succ])
  refine wpTake_nil ?_
  refine tail_new (i := 4) (j := 5) (by rfl) (by rfl) (by kernel_rfl) (by kernel_rfl) (by kernel_rfl) (by rfl) 26 6 (by rfl) (by rfl) (by rfl) (.tmp 6) (.tmp 14) (by rfl) (by rfl) _ (vals .u64 Z12) (fun _ => by rfl) (fun _ => by rfl) (by exact ⟨_, _, rfl, rfl, by kernel_rfl⟩) (by rw [vals_size, (Nm.F2 _).len]; kernel_rfl) (by rw [vals_size, vals_size, (Nm.F2 _).len]; rfl) vals_one ?_
  intro w2 gy hgy qy2 hbt
  simp only [List.getElem_toArray, List.getElem_cons_zero, List.getElem_cons_succ, Act.put, List.setIfInBounds_toArray, List.set_cons_zero, List.set_cons_succ]
  have qa2 := qa1.keep hbt
  have Nay := Nat.lt_of_lt_of_le qa1.lt hgy
  have qb2 := qb1.keep hbt
  have Nby := Nat.lt_of_lt_of_le qb1.lt hgy
  have hb2 := hb1.trans (hbt.mono (HSS.out _ hb1))
  have My : S ≤ gy := Nat.le_trans (HSS.out _ hb1) hgy
  clear hbt hgy hb1 qa1 qb1
  go_wp2
  refine wp_reads 11 0 w2.heap.size (by kernel_rfl) (by kernel_rfl) (by rfl) (by kernel_rfl) (fun _ _ d _ _ h => by cases d <;> exact h) ?_
  simp only [List.take_succ_cons, List.take_zero]
  repeat ((first
    | refine take_eql_t (by rfl) (by rfl) (by rfl) (by rfl) eqok2 gd2 (Nm.len (n := 12) (by with_reducible first | exact Nm.fe _ | exact Nm.F2 _ | assumption | exact nm_one | exact nm_Z6 | (refine Nm.seg (m := 12) ?_ (by decide); assumption) | exact Nm.seg (m := 12) (Nm.F2 _) (by decide) | exact Nm.app2 (.fe _) (.fe _) | exact nm_two | exact nm_rep | exact nm_Z12 | exact Nm.app2 nm_one nm_one | exact Nm.app2 nm_one nm_rep | exact Nm.app2 nm_rep nm_one | exact Nm.app2 nm_two nm_rep | (refine Nm.app2 ?_ nm_Z6; assumption) | exact Nm.app2 (.fe _) nm_Z6 | exact ⟨rfl, words_of _ (by decide)⟩ | fail)) (Nm.len (n := 12) (by with_reducible first | exact Nm.fe _ | exact Nm.F2 _ | assumption | exact nm_one | exact nm_Z6 | (refine Nm.seg (m := 12) ?_ (by decide); assumption) | exact Nm.seg (m := 12) (Nm.F2 _) (by decide) | exact Nm.app2 (.fe _) (.fe _) | exact nm_two | exact nm_rep | exact nm_Z12 | exact Nm.app2 nm_one nm_one | exact Nm.app2 nm_one nm_rep | exact Nm.app2 nm_rep nm_one | exact Nm.app2 nm_two nm_rep | (refine Nm.app2 ?_ nm_Z6; assumption) | exact Nm.app2 (.fe _) nm_Z6 | exact ⟨rfl, words_of _ (by decide)⟩ | fail)) (by with_reducible first | rfl | exact cj1 _ _ | exact cj2 _ _ | exact cj3 _ | exact cj4 _ | exact hx0.out) ?_
    | refine take_load (by rfl) 24 (by rfl) (g := S) (n := 6) (by rfl) (t := 26) (xs := a) (fun w hw => hw.has qa2 (Nat.ne_of_lt qa2.lt)) Tryd.underlying24 rfl (by kernel_rfl) (by rw [ha.len]; decide) ?_
    | refine take_loadw (by rfl) 26 (by rfl) (g := S) (n := 12) (by rfl) (t := 26) (xs := a) (fun w hw => hw.has qa2 (Nat.ne_of_lt qa2.lt)) Tryd.underlying26 rfl (by kernel_rfl) ha.len ?_
    | refine take_load (by rfl) 24 (by rfl) (g := S + 1) (n := 6) (by rfl) (t := 26) (xs := b) (fun w hw => hw.has qb2 (Nat.ne_of_lt qb2.lt)) Tryd.underlying24 rfl (by kernel_rfl) (by rw [hb.len]; decide) ?_
    | refine take_loadw (by rfl) 26 (by rfl) (g := S + 1) (n := 12) (by rfl) (t := 26) (xs := b) (fun w hw => hw.has qb2 (Nat.ne_of_lt qb2.lt)) Tryd.underlying26 rfl (by kernel_rfl) hb.len ?_
    | refine take_load (by rfl) 24 (by rfl) (g := gy) (n := 6) (by rfl) (t := 26) (xs := (F2 (gm (v2 a) (v2 (F2 (gc (v2 a))))))) (fun w hw => hw.has qy2 (Nat.ne_of_lt qy2.lt)) Tryd.underlying24 rfl (by kernel_rfl) (by rw [(Nm.F2 _).len]; decide) ?_
    | refine take_loadw (by rfl) 26 (by rfl) (g := gy) (n := 12) (by rfl) (t := 26) (xs := (F2 (gm (v2 a) (v2 (F2 (gc (v2 a))))))) (fun w hw => hw.has qy2 (Nat.ne_of_lt qy2.lt)) Tryd.underlying26 rfl (by kernel_rfl) (Nm.F2 _).len ?_
    | refine take_build (by rfl) (by rfl) (by refine build2z ?_ <;> (with_reducible first | exact Nm.fe _ | exact Nm.F2 _ | assumption | exact nm_one | exact nm_Z6 | (refine Nm.seg (m := 12) ?_ (by decide); assumption) | exact Nm.seg (m := 12) (Nm.F2 _) (by decide) | exact Nm.app2 (.fe _) (.fe _) | exact nm_two | exact nm_rep | exact nm_Z12 | exact Nm.app2 nm_one nm_one | exact Nm.app2 nm_one nm_rep | exact Nm.app2 nm_rep nm_one | exact Nm.app2 nm_two nm_rep | (refine Nm.app2 ?_ nm_Z6; assumption) | exact Nm.app2 (.fe _) nm_Z6 | exact ⟨rfl, words_of _ (by decide)⟩ | fail)) ?_
    | refine wpTake_cons (.inl ⟨by rfl, fun w hw => (by unfold Oper.quietAt; go_simp; (first | with_reducible refine lRed2 _ ?_ _ (HG.out _ (hb2.trans (hw.below (HSS.out _ hb2) (HSS.out _ hb2)))) | with_reducible refine lAdd2 _ ?_ _ ?_ _ (HG.out _ (hb2.trans (hw.below (HSS.out _ hb2) (HSS.out _ hb2)))) | with_reducible refine lSub2 _ ?_ _ ?_ _ (HG.out _ (hb2.trans (hw.below (HSS.out _ hb2) (HSS.out _ hb2)))) | with_reducible refine lNeg2 _ ?_ _ (HG.out _ (hb2.trans (hw.below (HSS.out _ hb2) (HSS.out _ hb2)))) | with_reducible refine lMul2 _ ?_ _ ?_ _ (HG.out _ (hb2.trans (hw.below (HSS.out _ hb2) (HSS.out _ hb2)))) | with_reducible refine lInv2 _ ?_ _ (HD.out _ (hb2.trans (hw.below (HSS.out _ hb2) (HSS.out _ hb2)))) | with_reducible refine lConj2 _ ?_ _ (HG.out _ (hb2.trans (hw.below (HSS.out _ hb2) (HSS.out _ hb2)))) | with_reducible refine lXi2 _ ?_ _ (HG.out _ (hb2.trans (hw.below (HSS.out _ hb2) (HSS.out _ hb2)))) | with_reducible refine lScale2 _ ?_ _ ?_ _ (HG.out _ (hb2.trans (hw.below (HSS.out _ hb2) (HSS.out _ hb2)))) | with_reducible refine refRed2 _ ?_ _ | with_reducible refine refAdd2 _ ?_ _ ?_ _ | with_reducible refine refSub2 _ ?_ _ ?_ _ | with_reducible refine refNeg2 _ ?_ _ | with_reducible refine refMul2 _ ?_ _ ?_ _ | with_reducible refine refInv2 _ ?_ _ | with_reducible refine refConj2 _ ?_ _ | with_reducible refine refXi2 _ ?_ _ | with_reducible refine refScale2 _ ?_ _ ?_ _ | with_reducible refine one_c _) <;> (with_reducible first | exact Nm.fe _ | exact Nm.F2 _ | assumption | exact nm_one | exact nm_Z6 | (refine Nm.seg (m := 12) ?_ (by decide); assumption) | exact Nm.seg (m := 12) (Nm.F2 _) (by decide) | exact Nm.app2 (.fe _) (.fe _) | exact nm_two | exact nm_rep | exact nm_Z12 | exact Nm.app2 nm_one nm_one | exact Nm.app2 nm_one nm_rep | exact Nm.app2 nm_rep nm_one | exact Nm.app2 nm_two nm_rep | (refine Nm.app2 ?_ nm_Z6; assumption) | exact Nm.app2 (.fe _) nm_Z6 | exact ⟨rfl, words_of _ (by decide)⟩ | fail))⟩) ?_
    | refine wpTake_cons (Steady.of_yields (Or.inl ⟨by rfl, fun w => (by first | (go_simp; done) | (go_simp; with_reducible rfl))⟩)) ?_); simp only [List.getElem_toArray, List.getElem_cons_zero, List.getElem_cons_succ, Act.put, List.setIfInBounds_toArray, List.set_cons_zero, List.set_cons_succ])
  refine wpTake_nil ?_
  refine wpAnyU_end (by kernel_rfl) (fun w3 hq0 => ?_)
  have hq := (drawn_below w2).trans hq0
  have qa3 := qa2.keep hq
  have qb3 := qb2.keep hq
  have qy3 := qy2.keep hq
  have hb3 := hb2.trans (hq.mono (HSS.out _ hb2))
  clear hq0 hq hb2 qa2 qb2 qy2
  go_wp2
  refine wp_reads 11 0 w3.heap.size (by kernel_rfl) (by kernel_rfl) (by rfl) (by kernel_rfl) (fun _ _ d _ _ h => by cases d <;> exact h) ?_
  simp only [List.take_succ_cons, List.take_zero]
  repeat ((first
    | refine take_eql_t (by rfl) (by rfl) (by rfl) (by rfl) eqok2 gd2 (Nm.len (n := 12) (by with_reducible first | exact Nm.fe _ | exact Nm.F2 _ | assumption | exact nm_one | exact nm_Z6 | (refine Nm.seg (m := 12) ?_ (by decide); assumption) | exact Nm.seg (m := 12) (Nm.F2 _) (by decide) | exact Nm.app2 (.fe _) (.fe _) | exact nm_two | exact nm_rep | exact nm_Z12 | exact Nm.app2 nm_one nm_one | exact Nm.app2 nm_one nm_rep | exact Nm.app2 nm_rep nm_one | exact Nm.app2 nm_two nm_rep | (refine Nm.app2 ?_ nm_Z6; assumption) | exact Nm.app2 (.fe _) nm_Z6 | exact ⟨rfl, words_of _ (by decide)⟩ | fail)) (Nm.len (n := 12) (by with_reducible first | exact Nm.fe _ | exact Nm.F2 _ | assumption | exact nm_one | exact nm_Z6 | (refine Nm.seg (m := 12) ?_ (by decide); assumption) | exact Nm.seg (m := 12) (Nm.F2 _) (by decide) | exact Nm.app2 (.fe _) (.fe _) | exact nm_two | exact nm_rep | exact nm_Z12 | exact Nm.app2 nm_one nm_one | exact Nm.app2 nm_one nm_rep | exact Nm.app2 nm_rep nm_one | exact Nm.app2 nm_two nm_rep | (refine Nm.app2 ?_ nm_Z6; assumption) | exact Nm.app2 (.fe _) nm_Z6 | exact ⟨rfl, words_of _ (by decide)⟩ | fail)) (by with_reducible first | rfl | exact cj1 _ _ | exact cj2 _ _ | exact cj3 _ | exact cj4 _ | exact hx0.out) ?_
    | refine take_load (by rfl) 24 (by rfl) (g := S) (n := 6) (by rfl) (t := 26) (xs := a) (fun w hw => hw.has qa3 (Nat.ne_of_lt qa3.lt)) Tryd.underlying24 rfl (by kernel_rfl) (by rw [ha.len]; decide) ?_
    | refine take_loadw (by rfl) 26 (by rfl) (g := S) (n := 12) (by rfl) (t := 26) (xs := a) (fun w hw => hw.has qa3 (Nat.ne_of_lt qa3.lt)) Tryd.underlying26 rfl (by kernel_rfl) ha.len ?_
    | refine take_load (by rfl) 24 (by rfl) (g := S + 1) (n := 6) (by rfl) (t := 26) (xs := b) (fun w hw => hw.has qb3 (Nat.ne_of_lt qb3.lt)) Tryd.underlying24 rfl (by kernel_rfl) (by rw [hb.len]; decide) ?_
    | refine take_loadw (by rfl) 26 (by rfl) (g := S + 1) (n := 12) (by rfl) (t := 26) (xs := b) (fun w hw => hw.has qb3 (Nat.ne_of_lt qb3.lt)) Tryd.underlying26 rfl (by kernel_rfl) hb.len ?_
    | refine take_load (by rfl) 24 (by rfl) (g := gy) (n := 6) (by rfl) (t := 26) (xs := (F2 (gm (v2 a) (v2 (F2 (gc (v2 a))))))) (fun w hw => hw.has qy3 (Nat.ne_of_lt qy3.lt)) Tryd.underlying24 rfl (by kernel_rfl) (by rw [(Nm.F2 _).len]; decide) ?_
    | refine take_loadw (by rfl) 26 (by rfl) (g := gy) (n := 12) (by rfl) (t := 26) (xs := (F2 (gm (v2 a) (v2 (F2 (gc (v2 a))))))) (fun w hw => hw.has qy3 (Nat.ne_of_lt qy3.lt)) Tryd.underlying26 rfl (by kernel_rfl) (Nm.F2 _).len ?_
    | refine take_build (by rfl) (by rfl) (by refine build2z ?_ <;> (with_reducible first | exact Nm.fe _ | exact Nm.F2 _ | assumption | exact nm_one | exact nm_Z6 | (refine Nm.seg (m := 12) ?_ (by decide); assumption) | exact Nm.seg (m := 12) (Nm.F2 _) (by decide) | exact Nm.app2 (.fe _) (.fe _) | exact nm_two | exact nm_rep | exact nm_Z12 | exact Nm.app2 nm_one nm_one | exact Nm.app2 nm_one nm_rep | exact Nm.app2 nm_rep nm_one | exact Nm.app2 nm_two nm_rep | (refine Nm.app2 ?_ nm_Z6; assumption) | exact Nm.app2 (.fe _) nm_Z6 | exact ⟨rfl, words_of _ (by decide)⟩ | fail)) ?_
    | refine wpTake_cons (.inl ⟨by rfl, fun w hw => (by unfold Oper.quietAt; go_simp; (first | with_reducible refine lRed2 _ ?_ _ (HG.out _ (hb3.trans (hw.below (HSS.out _ hb3) (HSS.out _ hb3)))) | with_reducible refine lAdd2 _ ?_ _ ?_ _ (HG.out _ (hb3.trans (hw.below (HSS.out _ hb3) (HSS.out _ hb3)))) | with_reducible refine lSub2 _ ?_ _ ?_ _ (HG.out _ (hb3.trans (hw.below (HSS.out _ hb3) (HSS.out _ hb3)))) | with_reducible refine lNeg2 _ ?_ _ (HG.out _ (hb3.trans (hw.below (HSS.out _ hb3) (HSS.out _ hb3)))) | with_reducible refine lMul2 _ ?_ _ ?_ _ (HG.out _ (hb3.trans (hw.below (HSS.out _ hb3) (HSS.out _ hb3)))) | with_reducible refine lInv2 _ ?_ _ (HD.out _ (hb3.trans (hw.below (HSS.out _ hb3) (HSS.out _ hb3)))) | with_reducible refine lConj2 _ ?_ _ (HG.out _ (hb3.trans (hw.below (HSS.out _ hb3) (HSS.out _ hb3)))) | with_reducible refine lXi2 _ ?_ _ (HG.out _ (hb3.trans (hw.below (HSS.out _ hb3) (HSS.out _ hb3)))) | with_reducible refine lScale2 _ ?_ _ ?_ _ (HG.out _ (hb3.trans (hw.below (HSS.out _ hb3) (HSS.out _ hb3)))) | with_reducible refine refRed2 _ ?_ _ | with_reducible refine refAdd2 _ ?_ _ ?_ _ | with_reducible refine refSub2 _ ?_ _ ?_ _ | with_reducible refine refNeg2 _ ?_ _ | with_reducible refine refMul2 _ ?_ _ ?_ _ | with_reducible refine refInv2 _ ?_ _ | with_reducible refine refConj2 _ ?_ _ | with_reducible refine refXi2 _ ?_ _ | with_reducible refine refScale2 _ ?_ _ ?_ _ | with_reducible refine one_c _) <;> (with_reducible first | exact Nm.fe _ | exact Nm.F2 _ | assumption | exact nm_one | exact nm_Z6 | (refine Nm.seg (m := 12) ?_ (by decide); assumption) | exact Nm.seg (m := 12) (Nm.F2 _) (by decide) | exact Nm.app2 (.fe _) (.fe _) | exact nm_two | exact nm_rep | exact nm_Z12 | exact Nm.app2 nm_one nm_one | exact Nm.app2 nm_one nm_rep | exact Nm.app2 nm_rep nm_one | exact Nm.app2 nm_two nm_rep | (refine Nm.app2 ?_ nm_Z6; assumption) | exact Nm.app2 (.fe _) nm_Z6 | exact ⟨rfl, words_of _ (by decide)⟩ | fail))⟩) ?_
    | refine wpTake_cons (Steady.of_yields (Or.inl ⟨by rfl, fun w => (by first | (go_simp; done) | (go_simp; with_reducible rfl))⟩)) ?_); simp only [List.getElem_toArray, List.getElem_cons_zero, List.getElem_cons_succ, Act.put, List.setIfInBounds_toArray, List.set_cons_zero, List.set_cons_succ])
  refine wpTake_nil ?_
  refine wpAnyU_end (by kernel_rfl) (fun w4 hq0 => ?_)
  have hq := (drawn_below w3).trans hq0
  have qa4 := qa3.keep hq
  have qb4 := qb3.keep hq
  have qy4 := qy3.keep hq
  have hb4 := hb3.trans (hq.mono (HSS.out _ hb3))
  clear hq0 hq hb3 qa3 qb3 qy3
  go_wp2
  refine wp_reads 11 2 w4.heap.size (by kernel_rfl) (by kernel_rfl) (by rfl) (by kernel_rfl) (fun _ _ d _ _ h => by cases d <;> exact h) ?_
  simp only [List.take_succ_cons, List.take_zero]
  repeat ((first
    | refine take_load (by rfl) 24 (by rfl) (g := S) (n := 6) (by rfl) (t := 26) (xs := a) (fun w hw => hw.has qa4 (Nat.ne_of_lt qa4.lt)) Tryd.underlying24 rfl (by kernel_rfl) (by rw [ha.len]; decide) ?_
    | refine take_loadw (by rfl) 26 (by rfl) (g := S) (n := 12) (by rfl) (t := 26) (xs := a) (fun w hw => hw.has qa4 (Nat.ne_of_lt qa4.lt)) Tryd.underlying26 rfl (by kernel_rfl) ha.len ?_
    | refine take_load (by rfl) 24 (by rfl) (g := S + 1) (n := 6) (by rfl) (t := 26) (xs := b) (fun w hw => hw.has qb4 (Nat.ne_of_lt qb4.lt)) Tryd.underlying24 rfl (by kernel_rfl) (by rw [hb.len]; decide) ?_
    | refine take_loadw (by rfl) 26 (by rfl) (g := S + 1) (n := 12) (by rfl) (t := 26) (xs := b) (fun w hw => hw.has qb4 (Nat.ne_of_lt qb4.lt)) Tryd.underlying26 rfl (by kernel_rfl) hb.len ?_
    | refine take_load (by rfl) 24 (by rfl) (g := gy) (n := 6) (by rfl) (t := 26) (xs := (F2 (gm (v2 a) (v2 (F2 (gc (v2 a))))))) (fun w hw => hw.has qy4 (Nat.ne_of_lt qy4.lt)) Tryd.underlying24 rfl (by kernel_rfl) (by rw [(Nm.F2 _).len]; decide) ?_
    | refine take_loadw (by rfl) 26 (by rfl) (g := gy) (n := 12) (by rfl) (t := 26) (xs := (F2 (gm (v2 a) (v2 (F2 (gc (v2 a))))))) (fun w hw => hw.has qy4 (Nat.ne_of_lt qy4.lt)) Tryd.underlying26 rfl (by kernel_rfl) (Nm.F2 _).len ?_
    | refine take_build (by rfl) (by rfl) (by refine build2z ?_ <;> (with_reducible first | exact Nm.fe _ | exact Nm.F2 _ | assumption | exact nm_one | exact nm_Z6 | (refine Nm.seg (m := 12) ?_ (by decide); assumption) | exact Nm.seg (m := 12) (Nm.F2 _) (by decide) | exact Nm.app2 (.fe _) (.fe _) | exact nm_two | exact nm_rep | exact nm_Z12 | exact Nm.app2 nm_one nm_one | exact Nm.app2 nm_one nm_rep | exact Nm.app2 nm_rep nm_one | exact Nm.app2 nm_two nm_rep | (refine Nm.app2 ?_ nm_Z6; assumption) | exact Nm.app2 (.fe _) nm_Z6 | exact ⟨rfl, words_of _ (by decide)⟩ | fail)) ?_
    | refine wpTake_cons (.inl ⟨by rfl, fun w hw => (by unfold Oper.quietAt; go_simp; (first | with_reducible refine pAdd ?_ ?_ _ (HG.out _ (hb4.trans (hw.below (HSS.out _ hb4) (HSS.out _ hb4)))) | with_reducible refine pSub ?_ ?_ _ (HG.out _ (hb4.trans (hw.below (HSS.out _ hb4) (HSS.out _ hb4)))) | with_reducible refine pMul ?_ ?_ _ (HG.out _ (hb4.trans (hw.below (HSS.out _ hb4) (HSS.out _ hb4))))) <;> (with_reducible first | exact Nm.fe _ | exact Nm.F2 _ | assumption | exact nm_one | exact nm_Z6 | (refine Nm.seg (m := 12) ?_ (by decide); assumption) | exact Nm.seg (m := 12) (Nm.F2 _) (by decide) | exact Nm.app2 (.fe _) (.fe _) | exact nm_two | exact nm_rep | exact nm_Z12 | exact Nm.app2 nm_one nm_one | exact Nm.app2 nm_one nm_rep | exact Nm.app2 nm_rep nm_one | exact Nm.app2 nm_two nm_rep | (refine Nm.app2 ?_ nm_Z6; assumption) | exact Nm.app2 (.fe _) nm_Z6 | exact ⟨rfl, words_of _ (by decide)⟩ | fail))⟩) ?_
    | refine wpTake_cons (Steady.of_yields (Or.inl ⟨by rfl, fun w => (by first | (go_simp; done) | (go_simp; with_reducible rfl))⟩)) ?_); simp only [List.getElem_toArray, List.getElem_cons_zero, List.getElem_cons_succ, Act.put, List.setIfInBounds_toArray, List.set_cons_zero, List.set_cons_succ])
  refine wpTake_nil ?_
  refine tail_new (i := 11) (j := 12) (by rfl) (by rfl) (by kernel_rfl) (by kernel_rfl) (by kernel_rfl) (by rfl) 24 9 (by rfl) (by rfl) (by rfl) (.tmp 9) (.tmp 45) (by rfl) (by rfl) _ (vals .u64 Z6) (fun _ => by rfl) (fun _ => by rfl) (by exact ⟨_, _, rfl, rfl, by kernel_rfl⟩) (by rw [vals_size, (Nm.fe _).len]; kernel_rfl) (by rw [vals_size, vals_size, (Nm.fe _).len]; rfl) vals_one ?_
  intro w5 gz hgz qz5 hbt
  simp only [List.getElem_toArray, List.getElem_cons_zero, List.getElem_cons_succ, Act.put, List.setIfInBounds_toArray, List.set_cons_zero, List.set_cons_succ]
  have qa5 := qa4.keep hbt
  have Naz := Nat.lt_of_lt_of_le qa4.lt hgz
  have qb5 := qb4.keep hbt
  have Nbz := Nat.lt_of_lt_of_le qb4.lt hgz
  have qy5 := qy4.keep hbt
  have Nyz := Nat.lt_of_lt_of_le qy4.lt hgz
  have hb5 := hb4.trans (hbt.mono (HSS.out _ hb4))
  have Mz : S ≤ gz := Nat.le_trans (HSS.out _ hb4) hgz
  clear hbt hgz hb4 qa4 qb4 qy4
  go_wp2
  refine wp_reads 32 0 w5.heap.size (by kernel_rfl) (by kernel_rfl) (by rfl) (by kernel_rfl) (fun _ _ d _ _ h => by cases d <;> exact h) ?_
  simp only [List.take_succ_cons, List.take_zero]
  repeat ((first
    | refine take_eql_t (by rfl) (by rfl) (by rfl) (by rfl) eqok2 gd2 (Nm.len (n := 12) (by with_reducible first | exact Nm.fe _ | exact Nm.F2 _ | assumption | exact nm_one | exact nm_Z6 | (refine Nm.seg (m := 12) ?_ (by decide); assumption) | exact Nm.seg (m := 12) (Nm.F2 _) (by decide) | exact Nm.app2 (.fe _) (.fe _) | exact nm_two | exact nm_rep | exact nm_Z12 | exact Nm.app2 nm_one nm_one | exact Nm.app2 nm_one nm_rep | exact Nm.app2 nm_rep nm_one | exact Nm.app2 nm_two nm_rep | (refine Nm.app2 ?_ nm_Z6; assumption) | exact Nm.app2 (.fe _) nm_Z6 | exact ⟨rfl, words_of _ (by decide)⟩ | fail)) (Nm.len (n := 12) (by with_reducible first | exact Nm.fe _ | exact Nm.F2 _ | assumption | exact nm_one | exact nm_Z6 | (refine Nm.seg (m := 12) ?_ (by decide); assumption) | exact Nm.seg (m := 12) (Nm.F2 _) (by decide) | exact Nm.app2 (.fe _) (.fe _) | exact nm_two | exact nm_rep | exact nm_Z12 | exact Nm.app2 nm_one nm_one | exact Nm.app2 nm_one nm_rep | exact Nm.app2 nm_rep nm_one | exact Nm.app2 nm_two nm_rep | (refine Nm.app2 ?_ nm_Z6; assumption) | exact Nm.app2 (.fe _) nm_Z6 | exact ⟨rfl, words_of _ (by decide)⟩ | fail)) (by with_reducible first | rfl | exact cj1 _ _ | exact cj2 _ _ | exact cj3 _ | exact cj4 _ | exact hx0.out) ?_
    | refine take_eql_t (by rfl) (by rfl) (by rfl) (by rfl) eqokF gdF (Nm.len (n := 6) (by with_reducible first | exact Nm.fe _ | exact Nm.F2 _ | assumption | exact nm_one | exact nm_Z6 | (refine Nm.seg (m := 12) ?_ (by decide); assumption) | exact Nm.seg (m := 12) (Nm.F2 _) (by decide) | exact Nm.app2 (.fe _) (.fe _) | exact nm_two | exact nm_rep | exact nm_Z12 | exact Nm.app2 nm_one nm_one | exact Nm.app2 nm_one nm_rep | exact Nm.app2 nm_rep nm_one | exact Nm.app2 nm_two nm_rep | (refine Nm.app2 ?_ nm_Z6; assumption) | exact Nm.app2 (.fe _) nm_Z6 | exact ⟨rfl, words_of _ (by decide)⟩ | fail)) (Nm.len (n := 6) (by with_reducible first | exact Nm.fe _ | exact Nm.F2 _ | assumption | exact nm_one | exact nm_Z6 | (refine Nm.seg (m := 12) ?_ (by decide); assumption) | exact Nm.seg (m := 12) (Nm.F2 _) (by decide) | exact Nm.app2 (.fe _) (.fe _) | exact nm_two | exact nm_rep | exact nm_Z12 | exact Nm.app2 nm_one nm_one | exact Nm.app2 nm_one nm_rep | exact Nm.app2 nm_rep nm_one | exact Nm.app2 nm_two nm_rep | (refine Nm.app2 ?_ nm_Z6; assumption) | exact Nm.app2 (.fe _) nm_Z6 | exact ⟨rfl, words_of _ (by decide)⟩ | fail)) (by with_reducible first | rfl | exact hn0.out) ?_
    | refine take_build (by rfl) (t := 24) (parts := #[]) (by rfl) (cells := vals .u64 Z6) (by kernel_rfl) ?_
    | refine take_build (by rfl) (t := 26) (parts := #[]) (by rfl) (cells := vals .u64 [0, 0, 0, 0, 0, 0, 0, 0, 0, 0, 0, 0]) (by kernel_rfl) ?_
    | refine take_load (by rfl) 24 (by rfl) (g := S) (n := 6) (by rfl) (t := 26) (xs := a) (fun w hw => hw.has qa5 (Nat.ne_of_lt qa5.lt)) Tryd.underlying24 rfl (by kernel_rfl) (by rw [ha.len]; decide) ?_
    | refine take_loadw (by rfl) 26 (by rfl) (g := S) (n := 12) (by rfl) (t := 26) (xs := a) (fun w hw => hw.has qa5 (Nat.ne_of_lt qa5.lt)) Tryd.underlying26 rfl (by kernel_rfl) ha.len ?_
    | refine take_load (by rfl) 24 (by rfl) (g := S + 1) (n := 6) (by rfl) (t := 26) (xs := b) (fun w hw => hw.has qb5 (Nat.ne_of_lt qb5.lt)) Tryd.underlying24 rfl (by kernel_rfl) (by rw [hb.len]; decide) ?_
    | refine take_loadw (by rfl) 26 (by rfl) (g := S + 1) (n := 12) (by rfl) (t := 26) (xs := b) (fun w hw => hw.has qb5 (Nat.ne_of_lt qb5.lt)) Tryd.underlying26 rfl (by kernel_rfl) hb.len ?_
    | refine take_load (by rfl) 24 (by rfl) (g := gy) (n := 6) (by rfl) (t := 26) (xs := (F2 (gm (v2 a) (v2 (F2 (gc (v2 a))))))) (fun w hw => hw.has qy5 (Nat.ne_of_lt qy5.lt)) Tryd.underlying24 rfl (by kernel_rfl) (by rw [(Nm.F2 _).len]; decide) ?_
    | refine take_loadw (by rfl) 26 (by rfl) (g := gy) (n := 12) (by rfl) (t := 26) (xs := (F2 (gm (v2 a) (v2 (F2 (gc (v2 a))))))) (fun w hw => hw.has qy5 (Nat.ne_of_lt qy5.lt)) Tryd.underlying26 rfl (by kernel_rfl) (Nm.F2 _).len ?_
    | refine take_loadw (by rfl) 24 (by rfl) (g := gz) (n := 6) (by rfl) (t := 24) (xs := (fe (num (fe (num (seg 0 6 a) * num (seg 0 6 a))) + num (fe (num (seg 6 6 a) * num (seg 6 6 a)))))) (fun w hw => hw.has qz5 (Nat.ne_of_lt qz5.lt)) Tryd.underlying24 rfl (by kernel_rfl) (Nm.fe _).len ?_
    | refine take_build (by rfl) (by rfl) (by refine build2z ?_ <;> (with_reducible first | exact Nm.fe _ | exact Nm.F2 _ | assumption | exact nm_one | exact nm_Z6 | (refine Nm.seg (m := 12) ?_ (by decide); assumption) | exact Nm.seg (m := 12) (Nm.F2 _) (by decide) | exact Nm.app2 (.fe _) (.fe _) | exact nm_two | exact nm_rep | exact nm_Z12 | exact Nm.app2 nm_one nm_one | exact Nm.app2 nm_one nm_rep | exact Nm.app2 nm_rep nm_one | exact Nm.app2 nm_two nm_rep | (refine Nm.app2 ?_ nm_Z6; assumption) | exact Nm.app2 (.fe _) nm_Z6 | exact ⟨rfl, words_of _ (by decide)⟩ | fail)) ?_
    | refine wpTake_cons (.inl ⟨by rfl, fun w hw => (by unfold Oper.quietAt; go_simp; (first | with_reducible refine lRed2 _ ?_ _ (HG.out _ (hb5.trans (hw.below (HSS.out _ hb5) (HSS.out _ hb5)))) | with_reducible refine lAdd2 _ ?_ _ ?_ _ (HG.out _ (hb5.trans (hw.below (HSS.out _ hb5) (HSS.out _ hb5)))) | with_reducible refine lSub2 _ ?_ _ ?_ _ (HG.out _ (hb5.trans (hw.below (HSS.out _ hb5) (HSS.out _ hb5)))) | with_reducible refine lNeg2 _ ?_ _ (HG.out _ (hb5.trans (hw.below (HSS.out _ hb5) (HSS.out _ hb5)))) | with_reducible refine lMul2 _ ?_ _ ?_ _ (HG.out _ (hb5.trans (hw.below (HSS.out _ hb5) (HSS.out _ hb5)))) | with_reducible refine lInv2 _ ?_ _ (HD.out _ (hb5.trans (hw.below (HSS.out _ hb5) (HSS.out _ hb5)))) | with_reducible refine lConj2 _ ?_ _ (HG.out _ (hb5.trans (hw.below (HSS.out _ hb5) (HSS.out _ hb5)))) | with_reducible refine lXi2 _ ?_ _ (HG.out _ (hb5.trans (hw.below (HSS.out _ hb5) (HSS.out _ hb5)))) | with_reducible refine lScale2 _ ?_ _ ?_ _ (HG.out _ (hb5.trans (hw.below (HSS.out _ hb5) (HSS.out _ hb5)))) | with_reducible refine refRed2 _ ?_ _ | with_reducible refine refAdd2 _ ?_ _ ?_ _ | with_reducible refine refSub2 _ ?_ _ ?_ _ | with_reducible refine refNeg2 _ ?_ _ | with_reducible refine refMul2 _ ?_ _ ?_ _ | with_reducible refine refInv2 _ ?_ _ | with_reducible refine refConj2 _ ?_ _ | with_reducible refine refXi2 _ ?_ _ | with_reducible refine refScale2 _ ?_ _ ?_ _ | with_reducible refine one_c _) <;> (with_reducible first | exact Nm.fe _ | exact Nm.F2 _ | assumption | exact nm_one | exact nm_Z6 | (refine Nm.seg (m := 12) ?_ (by decide); assumption) | exact Nm.seg (m := 12) (Nm.F2 _) (by decide) | exact Nm.app2 (.fe _) (.fe _) | exact nm_two | exact nm_rep | exact nm_Z12 | exact Nm.app2 nm_one nm_one | exact Nm.app2 nm_one nm_rep | exact Nm.app2 nm_rep nm_one | exact Nm.app2 nm_two nm_rep | (refine Nm.app2 ?_ nm_Z6; assumption) | exact Nm.app2 (.fe _) nm_Z6 | exact ⟨rfl, words_of _ (by decide)⟩ | fail))⟩) ?_
    | refine wpTake_cons (Steady.of_yields (Or.inl ⟨by rfl, fun w => (by first | (go_simp; done) | (go_simp; with_reducible rfl))⟩)) ?_); simp only [List.getElem_toArray, List.getElem_cons_zero, List.getElem_cons_succ, Act.put, List.setIfInBounds_toArray, List.set_cons_zero, List.set_cons_succ])
  refine wpTake_nil ?_
  refine wpAnyU_end (by kernel_rfl) (fun w6 hq0 => ?_)
  have hq := (drawn_below w5).trans hq0
  have qa6 := qa5.keep hq
  have qb6 := qb5.keep hq
  have qy6 := qy5.keep hq
  have qz6 := qz5.keep hq
  have hb6 := hb5.trans (hq.mono (HSS.out _ hb5))
  clear hq0 hq hb5 qa5 qb5 qy5 qz5
  go_wp2
  go_ret
  exact ⟨rfl, hb6⟩

set_option maxRecDepth 100000 in
set_option maxHeartbeats 4000000 in
theorem conj_some (a : List Int) (ha : Nm 12 a) (b : List Int) (hb : Nm 12 b) (w : World) (hG : GlobD w) (hz : ¬ Z2 (v2 a)) : Calls Tryd.prog 8 #[.agg (vals .u64 a), .agg (vals .u64 b)] w fun e w' => e = .returned (.bool true) ∧ Below w.heap.size w w' := by
  obtain ⟨S, hS⟩ : ∃ S, w.heap.size = S := ⟨_, rfl⟩
  have qa0 : Has ((w.alloc (.cells (vals .u64 a) 26)).alloc (.cells (vals .u64 b) 26)) (S) 26 (vals .u64 a) := ((Has.new' _ hS.symm _ _).alloc _)
  have qb0 : Has ((w.alloc (.cells (vals .u64 a) 26)).alloc (.cells (vals .u64 b) 26)) (S + 1) 26 (vals .u64 b) := (Has.new' _ (by simp only [World.size_alloc, hS]) _ _)
  have hb0 : Below S w ((w.alloc (.cells (vals .u64 a) 26)).alloc (.cells (vals .u64 b) 26)) := by rw [← hS]; exact (((Below.refl _ _).alloc (Nat.le_refl _) _).alloc (by simp <;> omega) _)
  have hsz0 : ((w.alloc (.cells (vals .u64 a) 26)).alloc (.cells (vals .u64 b) 26)).heap.size = S + 2 := by simp only [World.size_alloc, hS]
  have HSS : Keep (∀ x : World, Below S w x → S ≤ x.heap.size) := ⟨fun x hb => Nat.le_trans (by omega) hb.size⟩
  have HD : Keep (∀ x : World, Below S w x → GlobD x) := ⟨fun x hb => hG.keep (by rw [hS]; exact hb)⟩
  have HG : Keep (∀ x : World, Below S w x → Glob x) := ⟨fun x hb => (HD.out x hb).toGlob⟩
  clear hG
  have hx1 : Keep (F2 (v2 a) ≠ [0, 0, 0, 0, 0, 0, 0, 0, 0, 0, 0, 0]) := ⟨fun h => hz ((F2_zero _).1 h)⟩
  have hn1 : Keep ((fe (num (fe (num (seg 0 6 a) * num (seg 0 6 a))) + num (fe (num (seg 6 6 a) * num (seg 6 6 a))))) ≠ Z6) := ⟨fun h => hz ((nrm_zero a).1 h)⟩
  clear hz
  rw [hS]
  go_enter Tryd.func8, Tryd.ntmps8
  go_wp2_with (first
    | (have hq0 := hb0
       clear hq0
       go_at_call 11
       refine (awake_c _ (HD.out _ hb0)).mono ?_
       rintro e w1 ⟨rfl, hq⟩
       have qa1 := qa0.keep hq
       have qb1 := qb0.keep hq
       have hb1 := hb0.trans (hq.mono (HSS.out _ hb0))
       clear hq hb0 qa0 qb0))
  refine wp_reads 4 2 w1.heap.size (by kernel_rfl) (by kernel_rfl) (by rfl) (by kernel_rfl) (fun _ _ d _ _ h => by cases d <;> exact h) ?_
  simp only [List.take_succ_cons, List.take_zero]
  repeat ((first
    | refine take_load (by rfl) 24 (by rfl) (g := S) (n := 6) (by rfl) (t := 26) (xs := a) (fun w hw => hw.has qa1 (Nat.ne_of_lt qa1.lt)) Tryd.underlying24 rfl (by kernel_rfl) (by rw [ha.len]; decide) ?_
    | refine take_loadw (by rfl) 26 (by rfl) (g := S) (n := 12) (by rfl) (t := 26) (xs := a) (fun w hw => hw.has qa1 (Nat.ne_of_lt qa1.lt)) Tryd.underlying26 rfl (by kernel_rfl) ha.len ?_
    | refine take_load (by rfl) 24 (by rfl) (g := S + 1) (n := 6) (by rfl) (t := 26) (xs := b) (fun w hw => hw.has qb1 (Nat.ne_of_lt qb1.lt)) Tryd.underlying24 rfl (by kernel_rfl) (by rw [hb.len]; decide) ?_
    | refine take_loadw (by rfl) 26 (by rfl) (g := S + 1) (n := 12) (by rfl) (t := 26) (xs := b) (fun w hw => hw.has qb1 (Nat.ne_of_lt qb1.lt)) Tryd.underlying26 rfl (by kernel_rfl) hb.len ?_
    | refine take_build (by rfl) (by rfl) (by refine build2z ?_ <;> (with_reducible first | exact Nm.fe _ | exact Nm.F2 _ | assumption | exact nm_one | exact nm_Z6 | (refine Nm.seg (m := 12) ?_ (by decide); assumption) | exact Nm.seg (m := 12) (Nm.F2 _) (by decide) | exact Nm.app2 (.fe _) (.fe _) | exact nm_two | exact nm_rep | exact nm_Z12 | exact Nm.app2 nm_one nm_one | exact Nm.app2 nm_one nm_rep | exact Nm.app2 nm_rep nm_one | exact Nm.app2 nm_two nm_rep | (refine Nm.app2 ?_ nm_Z6; assumption) | exact Nm.app2 (.fe _) nm_Z6 | exact ⟨rfl, words_of _ (by decide)⟩ | fail)) ?_
    | refine wpTake_cons (.inl ⟨by rfl, fun w hw => (by unfold Oper.quietAt; go_simp; (first | with_reducible refine lRed2 _ ?_ _ (HG.out _ (hb1.trans (hw.below (HSS.out _ hb1) (HSS.out _ hb1)))) | with_reducible refine lAdd2 _ ?_ _ ?_ _ (HG.out _ (hb1.trans (hw.below (HSS.out _ hb1) (HSS.out _ hb1)))) | with_reducible refine lSub2 _ ?_ _ ?_ _ (HG.out _ (hb1.trans (hw.below (HSS.out _ hb1) (HSS.out _ hb1)))) | with_reducible refine lNeg2 _ ?_ _ (HG.out _ (hb1.trans (hw.below (HSS.out _ hb1) (HSS.out _ hb1)))) | with_reducible refine lMul2 _ ?_ _ ?_ _ (HG.out _ (hb1.trans (hw.below (HSS.out _ hb1) (HSS.out _ hb1)))) | with_reducible refine lInv2 _ ?_ _ (HD.out _ (hb1.trans (hw.below (HSS.out _ hb1) (HSS.out _ hb1)))) | with_reducible refine lConj2 _ ?_ _ (HG.out _ (hb1.trans (hw.below (HSS.out _ hb1) (HSS.out _ hb1)))) | with_reducible refine lXi2 _ ?_ _ (HG.out _ (hb1.trans (hw.below (HSS.out _ hb1) (HSS.out _ hb1)))) | with_reducible refine lScale2 _ ?_ _ ?_ _ (HG.out _ (hb1.trans (hw.below (HSS.out _ hb1) (HSS.out _ hb1))))) <;> (with_reducible first | exact Nm.fe _ | exact Nm.F2 _ | assumption | exact nm_one | exact nm_Z6 | (refine Nm.seg (m := 12) ?_ (by decide); assumption) | exact Nm.seg (m := 12) (Nm.F2 _) (by decide) | exact Nm.app2 (.fe _) (.fe _) | exact nm_two | exact nm_rep | exact nm_Z12 | exact Nm.app2 nm_one nm_one | exact Nm.app2 nm_one nm_rep | exact Nm.app2 nm_rep nm_one | exact Nm.app2 nm_two nm_rep | (refine Nm.app2 ?_ nm_Z6; assumption) | exact Nm.app2 (.fe _) nm_Z6 | exact ⟨rfl, words_of _ (by decide)⟩ | fail))⟩) ?_
    | refine wpTake_cons (Steady.of_yields (Or.inl ⟨by rfl, fun w => (by first | (go_simp; done) | (go_simp; with_reducible rfl))⟩)) ?_); simp only [List.getElem_toArray, List.getElem_cons_zero, List.getElem_cons_succ, Act.put, List.setIfInBounds_toArray, List.set_cons_zero, List.set_cons_succ])
  refine wpTake_nil ?_
  refine tail_new (i := 4) (j := 5) (by rfl) (by rfl) (by kernel_rfl) (by kernel_rfl) (by kernel_rfl) (by rfl) 26 6 (by rfl) (by rfl) (by rfl) (.tmp 6) (.tmp 14) (by rfl) (by rfl) _ (vals .u64 Z12) (fun _ => by rfl) (fun _ => by rfl) (by exact ⟨_, _, rfl, rfl, by kernel_rfl⟩) (by rw [vals_size, (Nm.F2 _).len]; kernel_rfl) (by rw [vals_size, vals_size, (Nm.F2 _).len]; rfl) vals_one ?_
  intro w2 gy hgy qy2 hbt
  simp only [List.getElem_toArray, List.getElem_cons_zero, List.getElem_cons_succ, Act.put, List.setIfInBounds_toArray, List.set_cons_zero, List.set_cons_succ]
  have qa2 := qa1.keep hbt
  have Nay := Nat.lt_of_lt_of_le qa1.lt hgy
  have qb2 := qb1.keep hbt
  have Nby := Nat.lt_of_lt_of_le qb1.lt hgy
  have hb2 := hb1.trans (hbt.mono (HSS.out _ hb1))
  have My : S ≤ gy := Nat.le_trans (HSS.out _ hb1) hgy
  clear hbt hgy hb1 qa1 qb1
  go_wp2
  refine wp_reads 11 0 w2.heap.size (by kernel_rfl) (by kernel_rfl) (by rfl) (by kernel_rfl) (fun _ _ d _ _ h => by cases d <;> exact h) ?_
  simp only [List.take_succ_cons, List.take_zero]
  repeat ((first
    | refine take_eql_t (by rfl) (by rfl) (by rfl) (by rfl) eqok2 gd2 (Nm.len (n := 12) (by with_reducible first | exact Nm.fe _ | exact Nm.F2 _ | assumption | exact nm_one | exact nm_Z6 | (refine Nm.seg (m := 12) ?_ (by decide); assumption) | exact Nm.seg (m := 12) (Nm.F2 _) (by decide) | exact Nm.app2 (.fe _) (.fe _) | exact nm_two | exact nm_rep | exact nm_Z12 | exact Nm.app2 nm_one nm_one | exact Nm.app2 nm_one nm_rep | exact Nm.app2 nm_rep nm_one | exact Nm.app2 nm_two nm_rep | (refine Nm.app2 ?_ nm_Z6; assumption) | exact Nm.app2 (.fe _) nm_Z6 | exact ⟨rfl, words_of _ (by decide)⟩ | fail)) (Nm.len (n := 12) (by with_reducible first | exact Nm.fe _ | exact Nm.F2 _ | assumption | exact nm_one | exact nm_Z6 | (refine Nm.seg (m := 12) ?_ (by decide); assumption) | exact Nm.seg (m := 12) (Nm.F2 _) (by decide) | exact Nm.app2 (.fe _) (.fe _) | exact nm_two | exact nm_rep | exact nm_Z12 | exact Nm.app2 nm_one nm_one | exact Nm.app2 nm_one nm_rep | exact Nm.app2 nm_rep nm_one | exact Nm.app2 nm_two nm_rep | (refine Nm.app2 ?_ nm_Z6; assumption) | exact Nm.app2 (.fe _) nm_Z6 | exact ⟨rfl, words_of _ (by decide)⟩ | fail)) (by with_reducible first | rfl | exact cj1 _ _ | exact cj2 _ _ | exact cj3 _ | exact cj4 _) ?_
    | refine take_load (by rfl) 24 (by rfl) (g := S) (n := 6) (by rfl) (t := 26) (xs := a) (fun w hw => hw.has qa2 (Nat.ne_of_lt qa2.lt)) Tryd.underlying24 rfl (by kernel_rfl) (by rw [ha.len]; decide) ?_
    | refine take_loadw (by rfl) 26 (by rfl) (g := S) (n := 12) (by rfl) (t := 26) (xs := a) (fun w hw => hw.has qa2 (Nat.ne_of_lt qa2.lt)) Tryd.underlying26 rfl (by kernel_rfl) ha.len ?_
    | refine take_load (by rfl) 24 (by rfl) (g := S + 1) (n := 6) (by rfl) (t := 26) (xs := b) (fun w hw => hw.has qb2 (Nat.ne_of_lt qb2.lt)) Tryd.underlying24 rfl (by kernel_rfl) (by rw [hb.len]; decide) ?_
    | refine take_loadw (by rfl) 26 (by rfl) (g := S + 1) (n := 12) (by rfl) (t := 26) (xs := b) (fun w hw => hw.has qb2 (Nat.ne_of_lt qb2.lt)) Tryd.underlying26 rfl (by kernel_rfl) hb.len ?_
    | refine take_load (by rfl) 24 (by rfl) (g := gy) (n := 6) (by rfl) (t := 26) (xs := (F2 (gm (v2 a) (v2 (F2 (gc (v2 a))))))) (fun w hw => hw.has qy2 (Nat.ne_of_lt qy2.lt)) Tryd.underlying24 rfl (by kernel_rfl) (by rw [(Nm.F2 _).len]; decide) ?_
    | refine take_loadw (by rfl) 26 (by rfl) (g := gy) (n := 12) (by rfl) (t := 26) (xs := (F2 (gm (v2 a) (v2 (F2 (gc (v2 a))))))) (fun w hw => hw.has qy2 (Nat.ne_of_lt qy2.lt)) Tryd.underlying26 rfl (by kernel_rfl) (Nm.F2 _).len ?_
    | refine take_build (by rfl) (by rfl) (by refine build2z ?_ <;> (with_reducible first | exact Nm.fe _ | exact Nm.F2 _ | assumption | exact nm_one | exact nm_Z6 | (refine Nm.seg (m := 12) ?_ (by decide); assumption) | exact Nm.seg (m := 12) (Nm.F2 _) (by decide) | exact Nm.app2 (.fe _) (.fe _) | exact nm_two | exact nm_rep | exact nm_Z12 | exact Nm.app2 nm_one nm_one | exact Nm.app2 nm_one nm_rep | exact Nm.app2 nm_rep nm_one | exact Nm.app2 nm_two nm_rep | (refine Nm.app2 ?_ nm_Z6; assumption) | exact Nm.app2 (.fe _) nm_Z6 | exact ⟨rfl, words_of _ (by decide)⟩ | fail)) ?_
    | refine wpTake_cons (.inl ⟨by rfl, fun w hw => (by unfold Oper.quietAt; go_simp; (first | with_reducible refine lRed2 _ ?_ _ (HG.out _ (hb2.trans (hw.below (HSS.out _ hb2) (HSS.out _ hb2)))) | with_reducible refine lAdd2 _ ?_ _ ?_ _ (HG.out _ (hb2.trans (hw.below (HSS.out _ hb2) (HSS.out _ hb2)))) | with_reducible refine lSub2 _ ?_ _ ?_ _ (HG.out _ (hb2.trans (hw.below (HSS.out _ hb2) (HSS.out _ hb2)))) | with_reducible refine lNeg2 _ ?_ _ (HG.out _ (hb2.trans (hw.below (HSS.out _ hb2) (HSS.out _ hb2)))) | with_reducible refine lMul2 _ ?_ _ ?_ _ (HG.out _ (hb2.trans (hw.below (HSS.out _ hb2) (HSS.out _ hb2)))) | with_reducible refine lInv2 _ ?_ _ (HD.out _ (hb2.trans (hw.below (HSS.out _ hb2) (HSS.out _ hb2)))) | with_reducible refine lConj2 _ ?_ _ (HG.out _ (hb2.trans (hw.below (HSS.out _ hb2) (HSS.out _ hb2)))) | with_reducible refine lXi2 _ ?_ _ (HG.out _ (hb2.trans (hw.below (HSS.out _ hb2) (HSS.out _ hb2)))) | with_reducible refine lScale2 _ ?_ _ ?_ _ (HG.out _ (hb2.trans (hw.below (HSS.out _ hb2) (HSS.out _ hb2)))) | with_reducible refine refRed2 _ ?_ _ | with_reducible refine refAdd2 _ ?_ _ ?_ _ | with_reducible refine refSub2 _ ?_ _ ?_ _ | with_reducible refine refNeg2 _ ?_ _ | with_reducible refine refMul2 _ ?_ _ ?_ _ | with_reducible refine refInv2 _ ?_ _ | with_reducible refine refConj2 _ ?_ _ | with_reducible refine refXi2 _ ?_ _ | with_reducible refine refScale2 _ ?_ _ ?_ _ | with_reducible refine one_c _) <;> (with_reducible first | exact Nm.fe _ | exact Nm.F2 _ | assumption | exact nm_one | exact nm_Z6 | (refine Nm.seg (m := 12) ?_ (by decide); assumption) | exact Nm.seg (m := 12) (Nm.F2 _) (by decide) | exact Nm.app2 (.fe _) (.fe _) | exact nm_two | exact nm_rep | exact nm_Z12 | exact Nm.app2 nm_one nm_one | exact Nm.app2 nm_one nm_rep | exact Nm.app2 nm_rep nm_one | exact Nm.app2 nm_two nm_rep | (refine Nm.app2 ?_ nm_Z6; assumption) | exact Nm.app2 (.fe _) nm_Z6 | exact ⟨rfl, words_of _ (by decide)⟩ | fail))⟩) ?_
    | refine wpTake_cons (Steady.of_yields (Or.inl ⟨by rfl, fun w => (by first | (go_simp; done) | (go_simp; with_reducible rfl))⟩)) ?_); simp only [List.getElem_toArray, List.getElem_cons_zero, List.getElem_cons_succ, Act.put, List.setIfInBounds_toArray, List.set_cons_zero, List.set_cons_succ])
  refine wpTake_nil ?_
  refine wpAnyU_end (by kernel_rfl) (fun w3 hq0 => ?_)
  have hq := (drawn_below w2).trans hq0
  have qa3 := qa2.keep hq
  have qb3 := qb2.keep hq
  have qy3 := qy2.keep hq
  have hb3 := hb2.trans (hq.mono (HSS.out _ hb2))
  clear hq0 hq hb2 qa2 qb2 qy2
  go_wp2
  refine wp_reads 11 0 w3.heap.size (by kernel_rfl) (by kernel_rfl) (by rfl) (by kernel_rfl) (fun _ _ d _ _ h => by cases d <;> exact h) ?_
  simp only [List.take_succ_cons, List.take_zero]
  repeat ((first
    | refine take_eql_t (by rfl) (by rfl) (by rfl) (by rfl) eqok2 gd2 (Nm.len (n := 12) (by with_reducible first | exact Nm.fe _ | exact Nm.F2 _ | assumption | exact nm_one | exact nm_Z6 | (refine Nm.seg (m := 12) ?_ (by decide); assumption) | exact Nm.seg (m := 12) (Nm.F2 _) (by decide) | exact Nm.app2 (.fe _) (.fe _) | exact nm_two | exact nm_rep | exact nm_Z12 | exact Nm.app2 nm_one nm_one | exact Nm.app2 nm_one nm_rep | exact Nm.app2 nm_rep nm_one | exact Nm.app2 nm_two nm_rep | (refine Nm.app2 ?_ nm_Z6; assumption) | exact Nm.app2 (.fe _) nm_Z6 | exact ⟨rfl, words_of _ (by decide)⟩ | fail)) (Nm.len (n := 12) (by with_reducible first | exact Nm.fe _ | exact Nm.F2 _ | assumption | exact nm_one | exact nm_Z6 | (refine Nm.seg (m := 12) ?_ (by decide); assumption) | exact Nm.seg (m := 12) (Nm.F2 _) (by decide) | exact Nm.app2 (.fe _) (.fe _) | exact nm_two | exact nm_rep | exact nm_Z12 | exact Nm.app2 nm_one nm_one | exact Nm.app2 nm_one nm_rep | exact Nm.app2 nm_rep nm_one | exact Nm.app2 nm_two nm_rep | (refine Nm.app2 ?_ nm_Z6; assumption) | exact Nm.app2 (.fe _) nm_Z6 | exact ⟨rfl, words_of _ (by decide)⟩ | fail)) (by with_reducible first | rfl | exact cj1 _ _ | exact cj2 _ _ | exact cj3 _ | exact cj4 _) ?_
    | refine take_load (by rfl) 24 (by rfl) (g := S) (n := 6) (by rfl) (t := 26) (xs := a) (fun w hw => hw.has qa3 (Nat.ne_of_lt qa3.lt)) Tryd.underlying24 rfl (by kernel_rfl) (by rw [ha.len]; decide) ?_
    | refine take_loadw (by rfl) 26 (by rfl) (g := S) (n := 12) (by rfl) (t := 26) (xs := a) (fun w hw => hw.has qa3 (Nat.ne_of_lt qa3.lt)) Tryd.underlying26 rfl (by kernel_rfl) ha.len ?_
    | refine take_load (by rfl) 24 (by rfl) (g := S + 1) (n := 6) (by rfl) (t := 26) (xs := b) (fun w hw => hw.has qb3 (Nat.ne_of_lt qb3.lt)) Tryd.underlying24 rfl (by kernel_rfl) (by rw [hb.len]; decide) ?_
    | refine take_loadw (by rfl) 26 (by rfl) (g := S + 1) (n := 12) (by rfl) (t := 26) (xs := b) (fun w hw => hw.has qb3 (Nat.ne_of_lt qb3.lt)) Tryd.underlying26 rfl (by kernel_rfl) hb.len ?_
    | refine take_load (by rfl) 24 (by rfl) (g := gy) (n := 6) (by rfl) (t := 26) (xs := (F2 (gm (v2 a) (v2 (F2 (gc (v2 a))))))) (fun w hw => hw.has qy3 (Nat.ne_of_lt qy3.lt)) Tryd.underlying24 rfl (by kernel_rfl) (by rw [(Nm.F2 _).len]; decide) ?_
    | refine take_loadw (by rfl) 26 (by rfl) (g := gy) (n := 12) (by rfl) (t := 26) (xs := (F2 (gm (v2 a) (v2 (F2 (gc (v2 a))))))) (fun w hw => hw.has qy3 (Nat.ne_of_lt qy3.lt)) Tryd.underlying26 rfl (by kernel_rfl) (Nm.F2 _).len ?_
    | refine take_build (by rfl) (by rfl) (by refine build2z ?_ <;> (with_reducible first | exact Nm.fe _ | exact Nm.F2 _ | assumption | exact nm_one | exact nm_Z6 | (refine Nm.seg (m := 12) ?_ (by decide); assumption) | exact Nm.seg (m := 12) (Nm.F2 _) (by decide) | exact Nm.app2 (.fe _) (.fe _) | exact nm_two | exact nm_rep | exact nm_Z12 | exact Nm.app2 nm_one nm_one | exact Nm.app2 nm_one nm_rep | exact Nm.app2 nm_rep nm_one | exact Nm.app2 nm_two nm_rep | (refine Nm.app2 ?_ nm_Z6; assumption) | exact Nm.app2 (.fe _) nm_Z6 | exact ⟨rfl, words_of _ (by decide)⟩ | fail)) ?_
    | refine wpTake_cons (.inl ⟨by rfl, fun w hw => (by unfold Oper.quietAt; go_simp; (first | with_reducible refine lRed2 _ ?_ _ (HG.out _ (hb3.trans (hw.below (HSS.out _ hb3) (HSS.out _ hb3)))) | with_reducible refine lAdd2 _ ?_ _ ?_ _ (HG.out _ (hb3.trans (hw.below (HSS.out _ hb3) (HSS.out _ hb3)))) | with_reducible refine lSub2 _ ?_ _ ?_ _ (HG.out _ (hb3.trans (hw.below (HSS.out _ hb3) (HSS.out _ hb3)))) | with_reducible refine lNeg2 _ ?_ _ (HG.out _ (hb3.trans (hw.below (HSS.out _ hb3) (HSS.out _ hb3)))) | with_reducible refine lMul2 _ ?_ _ ?_ _ (HG.out _ (hb3.trans (hw.below (HSS.out _ hb3) (HSS.out _ hb3)))) | with_reducible refine lInv2 _ ?_ _ (HD.out _ (hb3.trans (hw.below (HSS.out _ hb3) (HSS.out _ hb3)))) | with_reducible refine lConj2 _ ?_ _ (HG.out _ (hb3.trans (hw.below (HSS.out _ hb3) (HSS.out _ hb3)))) | with_reducible refine lXi2 _ ?_ _ (HG.out _ (hb3.trans (hw.below (HSS.out _ hb3) (HSS.out _ hb3)))) | with_reducible refine lScale2 _ ?_ _ ?_ _ (HG.out _ (hb3.trans (hw.below (HSS.out _ hb3) (HSS.out _ hb3)))) | with_reducible refine refRed2 _ ?_ _ | with_reducible refine refAdd2 _ ?_ _ ?_ _ | with_reducible refine refSub2 _ ?_ _ ?_ _ | with_reducible refine refNeg2 _ ?_ _ | with_reducible refine refMul2 _ ?_ _ ?_ _ | with_reducible refine refInv2 _ ?_ _ | with_reducible refine refConj2 _ ?_ _ | with_reducible refine refXi2 _ ?_ _ | with_reducible refine refScale2 _ ?_ _ ?_ _ | with_reducible refine one_c _) <;> (with_reducible first | exact Nm.fe _ | exact Nm.F2 _ | assumption | exact nm_one | exact nm_Z6 | (refine Nm.seg (m := 12) ?_ (by decide); assumption) | exact Nm.seg (m := 12) (Nm.F2 _) (by decide) | exact Nm.app2 (.fe _) (.fe _) | exact nm_two | exact nm_rep | exact nm_Z12 | exact Nm.app2 nm_one nm_one | exact Nm.app2 nm_one nm_rep | exact Nm.app2 nm_rep nm_one | exact Nm.app2 nm_two nm_rep | (refine Nm.app2 ?_ nm_Z6; assumption) | exact Nm.app2 (.fe _) nm_Z6 | exact ⟨rfl, words_of _ (by decide)⟩ | fail))⟩) ?_
    | refine wpTake_cons (Steady.of_yields (Or.inl ⟨by rfl, fun w => (by first | (go_simp; done) | (go_simp; with_reducible rfl))⟩)) ?_); simp only [List.getElem_toArray, List.getElem_cons_zero, List.getElem_cons_succ, Act.put, List.setIfInBounds_toArray, List.set_cons_zero, List.set_cons_succ])
  refine wpTake_nil ?_
  refine wpAnyU_end (by kernel_rfl) (fun w4 hq0 => ?_)
  have hq := (drawn_below w3).trans hq0
  have qa4 := qa3.keep hq
  have qb4 := qb3.keep hq
  have qy4 := qy3.keep hq
  have hb4 := hb3.trans (hq.mono (HSS.out _ hb3))
  clear hq0 hq hb3 qa3 qb3 qy3
  go_wp2
  refine wp_reads 11 2 w4.heap.size (by kernel_rfl) (by kernel_rfl) (by rfl) (by kernel_rfl) (fun _ _ d _ _ h => by cases d <;> exact h) ?_
  simp only [List.take_succ_cons, List.take_zero]
  repeat ((first
    | refine take_load (by rfl) 24 (by rfl) (g := S) (n := 6) (by rfl) (t := 26) (xs := a) (fun w hw => hw.has qa4 (Nat.ne_of_lt qa4.lt)) Tryd.underlying24 rfl (by kernel_rfl) (by rw [ha.len]; decide) ?_
    | refine take_loadw (by rfl) 26 (by rfl) (g := S) (n := 12) (by rfl) (t := 26) (xs := a) (fun w hw => hw.has qa4 (Nat.ne_of_lt qa4.lt)) Tryd.underlying26 rfl (by kernel_rfl) ha.len ?_
    | refine take_load (by rfl) 24 (by rfl) (g := S + 1) (n := 6) (by rfl) (t := 26) (xs := b) (fun w hw => hw.has qb4 (Nat.ne_of_lt qb4.lt)) Tryd.underlying24 rfl (by kernel_rfl) (by rw [hb.len]; decide) ?_
    | refine take_loadw (by rfl) 26 (by rfl) (g := S + 1) (n := 12) (by rfl) (t := 26) (xs := b) (fun w hw => hw.has qb4 (Nat.ne_of_lt qb4.lt)) Tryd.underlying26 rfl (by kernel_rfl) hb.len ?_
    | refine take_load (by rfl) 24 (by rfl) (g := gy) (n := 6) (by rfl) (t := 26) (xs := (F2 (gm (v2 a) (v2 (F2 (gc (v2 a))))))) (fun w hw => hw.has qy4 (Nat.ne_of_lt qy4.lt)) Tryd.underlying24 rfl (by kernel_rfl) (by rw [(Nm.F2 _).len]; decide) ?_
    | refine take_loadw (by rfl) 26 (by rfl) (g := gy) (n := 12) (by rfl) (t := 26) (xs := (F2 (gm (v2 a) (v2 (F2 (gc (v2 a))))))) (fun w hw => hw.has qy4 (Nat.ne_of_lt qy4.lt)) Tryd.underlying26 rfl (by kernel_rfl) (Nm.F2 _).len ?_
    | refine take_build (by rfl) (by rfl) (by refine build2z ?_ <;> (with_reducible first | exact Nm.fe _ | exact Nm.F2 _ | assumption | exact nm_one | exact nm_Z6 | (refine Nm.seg (m := 12) ?_ (by decide); assumption) | exact Nm.seg (m := 12) (Nm.F2 _) (by decide) | exact Nm.app2 (.fe _) (.fe _) | exact nm_two | exact nm_rep | exact nm_Z12 | exact Nm.app2 nm_one nm_one | exact Nm.app2 nm_one nm_rep | exact Nm.app2 nm_rep nm_one | exact Nm.app2 nm_two nm_rep | (refine Nm.app2 ?_ nm_Z6; assumption) | exact Nm.app2 (.fe _) nm_Z6 | exact ⟨rfl, words_of _ (by decide)⟩ | fail)) ?_
    | refine wpTake_cons (.inl ⟨by rfl, fun w hw => (by unfold Oper.quietAt; go_simp; (first | with_reducible refine pAdd ?_ ?_ _ (HG.out _ (hb4.trans (hw.below (HSS.out _ hb4) (HSS.out _ hb4)))) | with_reducible refine pSub ?_ ?_ _ (HG.out _ (hb4.trans (hw.below (HSS.out _ hb4) (HSS.out _ hb4)))) | with_reducible refine pMul ?_ ?_ _ (HG.out _ (hb4.trans (hw.below (HSS.out _ hb4) (HSS.out _ hb4))))) <;> (with_reducible first | exact Nm.fe _ | exact Nm.F2 _ | assumption | exact nm_one | exact nm_Z6 | (refine Nm.seg (m := 12) ?_ (by decide); assumption) | exact Nm.seg (m := 12) (Nm.F2 _) (by decide) | exact Nm.app2 (.fe _) (.fe _) | exact nm_two | exact nm_rep | exact nm_Z12 | exact Nm.app2 nm_one nm_one | exact Nm.app2 nm_one nm_rep | exact Nm.app2 nm_rep nm_one | exact Nm.app2 nm_two nm_rep | (refine Nm.app2 ?_ nm_Z6; assumption) | exact Nm.app2 (.fe _) nm_Z6 | exact ⟨rfl, words_of _ (by decide)⟩ | fail))⟩) ?_
    | refine wpTake_cons (Steady.of_yields (Or.inl ⟨by rfl, fun w => (by first | (go_simp; done) | (go_simp; with_reducible rfl))⟩)) ?_); simp only [List.getElem_toArray, List.getElem_cons_zero, List.getElem_cons_succ, Act.put, List.setIfInBounds_toArray, List.set_cons_zero, List.set_cons_succ])
  refine wpTake_nil ?_
  refine tail_new (i := 11) (j := 12) (by rfl) (by rfl) (by kernel_rfl) (by kernel_rfl) (by kernel_rfl) (by rfl) 24 9 (by rfl) (by rfl) (by rfl) (.tmp 9) (.tmp 45) (by rfl) (by rfl) _ (vals .u64 Z6) (fun _ => by rfl) (fun _ => by rfl) (by exact ⟨_, _, rfl, rfl, by kernel_rfl⟩) (by rw [vals_size, (Nm.fe _).len]; kernel_rfl) (by rw [vals_size, vals_size, (Nm.fe _).len]; rfl) vals_one ?_
  intro w5 gz hgz qz5 hbt
  simp only [List.getElem_toArray, List.getElem_cons_zero, List.getElem_cons_succ, Act.put, List.setIfInBounds_toArray, List.set_cons_zero, List.set_cons_succ]
  have qa5 := qa4.keep hbt
  have Naz := Nat.lt_of_lt_of_le qa4.lt hgz
  have qb5 := qb4.keep hbt
  have Nbz := Nat.lt_of_lt_of_le qb4.lt hgz
  have qy5 := qy4.keep hbt
  have Nyz := Nat.lt_of_lt_of_le qy4.lt hgz
  have hb5 := hb4.trans (hbt.mono (HSS.out _ hb4))
  have Mz : S ≤ gz := Nat.le_trans (HSS.out _ hb4) hgz
  clear hbt hgz hb4 qa4 qb4 qy4
  go_wp2
  refine wp_reads 32 0 w5.heap.size (by kernel_rfl) (by kernel_rfl) (by rfl) (by kernel_rfl) (fun _ _ d _ _ h => by cases d <;> exact h) ?_
  simp only [List.take_succ_cons, List.take_zero]
  repeat ((first
    | refine take_eql_t (by rfl) (by rfl) (by rfl) (by rfl) eqok2 gd2 (Nm.len (n := 12) (by with_reducible first | exact Nm.fe _ | exact Nm.F2 _ | assumption | exact nm_one | exact nm_Z6 | (refine Nm.seg (m := 12) ?_ (by decide); assumption) | exact Nm.seg (m := 12) (Nm.F2 _) (by decide) | exact Nm.app2 (.fe _) (.fe _) | exact nm_two | exact nm_rep | exact nm_Z12 | exact Nm.app2 nm_one nm_one | exact Nm.app2 nm_one nm_rep | exact Nm.app2 nm_rep nm_one | exact Nm.app2 nm_two nm_rep | (refine Nm.app2 ?_ nm_Z6; assumption) | exact Nm.app2 (.fe _) nm_Z6 | exact ⟨rfl, words_of _ (by decide)⟩ | fail)) (Nm.len (n := 12) (by with_reducible first | exact Nm.fe _ | exact Nm.F2 _ | assumption | exact nm_one | exact nm_Z6 | (refine Nm.seg (m := 12) ?_ (by decide); assumption) | exact Nm.seg (m := 12) (Nm.F2 _) (by decide) | exact Nm.app2 (.fe _) (.fe _) | exact nm_two | exact nm_rep | exact nm_Z12 | exact Nm.app2 nm_one nm_one | exact Nm.app2 nm_one nm_rep | exact Nm.app2 nm_rep nm_one | exact Nm.app2 nm_two nm_rep | (refine Nm.app2 ?_ nm_Z6; assumption) | exact Nm.app2 (.fe _) nm_Z6 | exact ⟨rfl, words_of _ (by decide)⟩ | fail)) (by with_reducible first | rfl | exact cj1 _ _ | exact cj2 _ _ | exact cj3 _ | exact cj4 _) ?_
    | refine take_neq_t (by rfl) (by rfl) (by rfl) (by rfl) eqok2 gd2 (Nm.len (n := 12) (by with_reducible first | exact Nm.fe _ | exact Nm.F2 _ | assumption | exact nm_one | exact nm_Z6 | (refine Nm.seg (m := 12) ?_ (by decide); assumption) | exact Nm.seg (m := 12) (Nm.F2 _) (by decide) | exact Nm.app2 (.fe _) (.fe _) | exact nm_two | exact nm_rep | exact nm_Z12 | exact Nm.app2 nm_one nm_one | exact Nm.app2 nm_one nm_rep | exact Nm.app2 nm_rep nm_one | exact Nm.app2 nm_two nm_rep | (refine Nm.app2 ?_ nm_Z6; assumption) | exact Nm.app2 (.fe _) nm_Z6 | exact ⟨rfl, words_of _ (by decide)⟩ | fail)) (Nm.len (n := 12) (by with_reducible first | exact Nm.fe _ | exact Nm.F2 _ | assumption | exact nm_one | exact nm_Z6 | (refine Nm.seg (m := 12) ?_ (by decide); assumption) | exact Nm.seg (m := 12) (Nm.F2 _) (by decide) | exact Nm.app2 (.fe _) (.fe _) | exact nm_two | exact nm_rep | exact nm_Z12 | exact Nm.app2 nm_one nm_one | exact Nm.app2 nm_one nm_rep | exact Nm.app2 nm_rep nm_one | exact Nm.app2 nm_two nm_rep | (refine Nm.app2 ?_ nm_Z6; assumption) | exact Nm.app2 (.fe _) nm_Z6 | exact ⟨rfl, words_of _ (by decide)⟩ | fail)) (by with_reducible first | rfl | exact cj1 _ _ | exact cj2 _ _ | exact cj3 _ | exact cj4 _) ?_
    | refine take_eql_f (by rfl) (by rfl) (by rfl) (by rfl) eqok2 gd2 (Nm.len (n := 12) (by with_reducible first | exact Nm.fe _ | exact Nm.F2 _ | assumption | exact nm_one | exact nm_Z6 | (refine Nm.seg (m := 12) ?_ (by decide); assumption) | exact Nm.seg (m := 12) (Nm.F2 _) (by decide) | exact Nm.app2 (.fe _) (.fe _) | exact nm_two | exact nm_rep | exact nm_Z12 | exact Nm.app2 nm_one nm_one | exact Nm.app2 nm_one nm_rep | exact Nm.app2 nm_rep nm_one | exact Nm.app2 nm_two nm_rep | (refine Nm.app2 ?_ nm_Z6; assumption) | exact Nm.app2 (.fe _) nm_Z6 | exact ⟨rfl, words_of _ (by decide)⟩ | fail)) (Nm.len (n := 12) (by with_reducible first | exact Nm.fe _ | exact Nm.F2 _ | assumption | exact nm_one | exact nm_Z6 | (refine Nm.seg (m := 12) ?_ (by decide); assumption) | exact Nm.seg (m := 12) (Nm.F2 _) (by decide) | exact Nm.app2 (.fe _) (.fe _) | exact nm_two | exact nm_rep | exact nm_Z12 | exact Nm.app2 nm_one nm_one | exact Nm.app2 nm_one nm_rep | exact Nm.app2 nm_rep nm_one | exact Nm.app2 nm_two nm_rep | (refine Nm.app2 ?_ nm_Z6; assumption) | exact Nm.app2 (.fe _) nm_Z6 | exact ⟨rfl, words_of _ (by decide)⟩ | fail)) (by with_reducible first | assumption | exact hx1.out) ?_
    | refine take_neq_f (by rfl) (by rfl) (by rfl) (by rfl) eqok2 gd2 (Nm.len (n := 12) (by with_reducible first | exact Nm.fe _ | exact Nm.F2 _ | assumption | exact nm_one | exact nm_Z6 | (refine Nm.seg (m := 12) ?_ (by decide); assumption) | exact Nm.seg (m := 12) (Nm.F2 _) (by decide) | exact Nm.app2 (.fe _) (.fe _) | exact nm_two | exact nm_rep | exact nm_Z12 | exact Nm.app2 nm_one nm_one | exact Nm.app2 nm_one nm_rep | exact Nm.app2 nm_rep nm_one | exact Nm.app2 nm_two nm_rep | (refine Nm.app2 ?_ nm_Z6; assumption) | exact Nm.app2 (.fe _) nm_Z6 | exact ⟨rfl, words_of _ (by decide)⟩ | fail)) (Nm.len (n := 12) (by with_reducible first | exact Nm.fe _ | exact Nm.F2 _ | assumption | exact nm_one | exact nm_Z6 | (refine Nm.seg (m := 12) ?_ (by decide); assumption) | exact Nm.seg (m := 12) (Nm.F2 _) (by decide) | exact Nm.app2 (.fe _) (.fe _) | exact nm_two | exact nm_rep | exact nm_Z12 | exact Nm.app2 nm_one nm_one | exact Nm.app2 nm_one nm_rep | exact Nm.app2 nm_rep nm_one | exact Nm.app2 nm_two nm_rep | (refine Nm.app2 ?_ nm_Z6; assumption) | exact Nm.app2 (.fe _) nm_Z6 | exact ⟨rfl, words_of _ (by decide)⟩ | fail)) (by with_reducible first | assumption | exact hx1.out) ?_
    | refine take_eql_t (by rfl) (by rfl) (by rfl) (by rfl) eqokF gdF (Nm.len (n := 6) (by with_reducible first | exact Nm.fe _ | exact Nm.F2 _ | assumption | exact nm_one | exact nm_Z6 | (refine Nm.seg (m := 12) ?_ (by decide); assumption) | exact Nm.seg (m := 12) (Nm.F2 _) (by decide) | exact Nm.app2 (.fe _) (.fe _) | exact nm_two | exact nm_rep | exact nm_Z12 | exact Nm.app2 nm_one nm_one | exact Nm.app2 nm_one nm_rep | exact Nm.app2 nm_rep nm_one | exact Nm.app2 nm_two nm_rep | (refine Nm.app2 ?_ nm_Z6; assumption) | exact Nm.app2 (.fe _) nm_Z6 | exact ⟨rfl, words_of _ (by decide)⟩ | fail)) (Nm.len (n := 6) (by with_reducible first | exact Nm.fe _ | exact Nm.F2 _ | assumption | exact nm_one | exact nm_Z6 | (refine Nm.seg (m := 12) ?_ (by decide); assumption) | exact Nm.seg (m := 12) (Nm.F2 _) (by decide) | exact Nm.app2 (.fe _) (.fe _) | exact nm_two | exact nm_rep | exact nm_Z12 | exact Nm.app2 nm_one nm_one | exact Nm.app2 nm_one nm_rep | exact Nm.app2 nm_rep nm_one | exact Nm.app2 nm_two nm_rep | (refine Nm.app2 ?_ nm_Z6; assumption) | exact Nm.app2 (.fe _) nm_Z6 | exact ⟨rfl, words_of _ (by decide)⟩ | fail)) (by with_reducible first | rfl) ?_
    | refine take_eql_f (by rfl) (by rfl) (by rfl) (by rfl) eqokF gdF (Nm.len (n := 6) (by with_reducible first | exact Nm.fe _ | exact Nm.F2 _ | assumption | exact nm_one | exact nm_Z6 | (refine Nm.seg (m := 12) ?_ (by decide); assumption) | exact Nm.seg (m := 12) (Nm.F2 _) (by decide) | exact Nm.app2 (.fe _) (.fe _) | exact nm_two | exact nm_rep | exact nm_Z12 | exact Nm.app2 nm_one nm_one | exact Nm.app2 nm_one nm_rep | exact Nm.app2 nm_rep nm_one | exact Nm.app2 nm_two nm_rep | (refine Nm.app2 ?_ nm_Z6; assumption) | exact Nm.app2 (.fe _) nm_Z6 | exact ⟨rfl, words_of _ (by decide)⟩ | fail)) (Nm.len (n := 6) (by with_reducible first | exact Nm.fe _ | exact Nm.F2 _ | assumption | exact nm_one | exact nm_Z6 | (refine Nm.seg (m := 12) ?_ (by decide); assumption) | exact Nm.seg (m := 12) (Nm.F2 _) (by decide) | exact Nm.app2 (.fe _) (.fe _) | exact nm_two | exact nm_rep | exact nm_Z12 | exact Nm.app2 nm_one nm_one | exact Nm.app2 nm_one nm_rep | exact Nm.app2 nm_rep nm_one | exact Nm.app2 nm_two nm_rep | (refine Nm.app2 ?_ nm_Z6; assumption) | exact Nm.app2 (.fe _) nm_Z6 | exact ⟨rfl, words_of _ (by decide)⟩ | fail)) (by with_reducible first | exact hn1.out) ?_
    | refine take_build (by rfl) (t := 24) (parts := #[]) (by rfl) (cells := vals .u64 Z6) (by kernel_rfl) ?_
    | refine take_build (by rfl) (t := 26) (parts := #[]) (by rfl) (cells := vals .u64 [0, 0, 0, 0, 0, 0, 0, 0, 0, 0, 0, 0]) (by kernel_rfl) ?_
    | refine take_load (by rfl) 24 (by rfl) (g := S) (n := 6) (by rfl) (t := 26) (xs := a) (fun w hw => hw.has qa5 (Nat.ne_of_lt qa5.lt)) Tryd.underlying24 rfl (by kernel_rfl) (by rw [ha.len]; decide) ?_
    | refine take_loadw (by rfl) 26 (by rfl) (g := S) (n := 12) (by rfl) (t := 26) (xs := a) (fun w hw => hw.has qa5 (Nat.ne_of_lt qa5.lt)) Tryd.underlying26 rfl (by kernel_rfl) ha.len ?_
    | refine take_load (by rfl) 24 (by rfl) (g := S + 1) (n := 6) (by rfl) (t := 26) (xs := b) (fun w hw => hw.has qb5 (Nat.ne_of_lt qb5.lt)) Tryd.underlying24 rfl (by kernel_rfl) (by rw [hb.len]; decide) ?_
    | refine take_loadw (by rfl) 26 (by rfl) (g := S + 1) (n := 12) (by rfl) (t := 26) (xs := b) (fun w hw => hw.has qb5 (Nat.ne_of_lt qb5.lt)) Tryd.underlying26 rfl (by kernel_rfl) hb.len ?_
    | refine take_load (by rfl) 24 (by rfl) (g := gy) (n := 6) (by rfl) (t := 26) (xs := (F2 (gm (v2 a) (v2 (F2 (gc (v2 a))))))) (fun w hw => hw.has qy5 (Nat.ne_of_lt qy5.lt)) Tryd.underlying24 rfl (by kernel_rfl) (by rw [(Nm.F2 _).len]; decide) ?_
    | refine take_loadw (by rfl) 26 (by rfl) (g := gy) (n := 12) (by rfl) (t := 26) (xs := (F2 (gm (v2 a) (v2 (F2 (gc (v2 a))))))) (fun w hw => hw.has qy5 (Nat.ne_of_lt qy5.lt)) Tryd.underlying26 rfl (by kernel_rfl) (Nm.F2 _).len ?_
    | refine take_loadw (by rfl) 24 (by rfl) (g := gz) (n := 6) (by rfl) (t := 24) (xs := (fe (num (fe (num (seg 0 6 a) * num (seg 0 6 a))) + num (fe (num (seg 6 6 a) * num (seg 6 6 a)))))) (fun w hw => hw.has qz5 (Nat.ne_of_lt qz5.lt)) Tryd.underlying24 rfl (by kernel_rfl) (Nm.fe _).len ?_
    | refine take_build (by rfl) (by rfl) (by refine build2z ?_ <;> (with_reducible first | exact Nm.fe _ | exact Nm.F2 _ | assumption | exact nm_one | exact nm_Z6 | (refine Nm.seg (m := 12) ?_ (by decide); assumption) | exact Nm.seg (m := 12) (Nm.F2 _) (by decide) | exact Nm.app2 (.fe _) (.fe _) | exact nm_two | exact nm_rep | exact nm_Z12 | exact Nm.app2 nm_one nm_one | exact Nm.app2 nm_one nm_rep | exact Nm.app2 nm_rep nm_one | exact Nm.app2 nm_two nm_rep | (refine Nm.app2 ?_ nm_Z6; assumption) | exact Nm.app2 (.fe _) nm_Z6 | exact ⟨rfl, words_of _ (by decide)⟩ | fail)) ?_
    | refine wpTake_cons (.inl ⟨by rfl, fun w hw => (by unfold Oper.quietAt; go_simp; (first | with_reducible refine lRed2 _ ?_ _ (HG.out _ (hb5.trans (hw.below (HSS.out _ hb5) (HSS.out _ hb5)))) | with_reducible refine lAdd2 _ ?_ _ ?_ _ (HG.out _ (hb5.trans (hw.below (HSS.out _ hb5) (HSS.out _ hb5)))) | with_reducible refine lSub2 _ ?_ _ ?_ _ (HG.out _ (hb5.trans (hw.below (HSS.out _ hb5) (HSS.out _ hb5)))) | with_reducible refine lNeg2 _ ?_ _ (HG.out _ (hb5.trans (hw.below (HSS.out _ hb5) (HSS.out _ hb5)))) | with_reducible refine lMul2 _ ?_ _ ?_ _ (HG.out _ (hb5.trans (hw.below (HSS.out _ hb5) (HSS.out _ hb5)))) | with_reducible refine lInv2 _ ?_ _ (HD.out _ (hb5.trans (hw.below (HSS.out _ hb5) (HSS.out _ hb5)))) | with_reducible refine lConj2 _ ?_ _ (HG.out _ (hb5.trans (hw.below (HSS.out _ hb5) (HSS.out _ hb5)))) | with_reducible refine lXi2 _ ?_ _ (HG.out _ (hb5.trans (hw.below (HSS.out _ hb5) (HSS.out _ hb5)))) | with_reducible refine lScale2 _ ?_ _ ?_ _ (HG.out _ (hb5.trans (hw.below (HSS.out _ hb5) (HSS.out _ hb5)))) | with_reducible refine refRed2 _ ?_ _ | with_reducible refine refAdd2 _ ?_ _ ?_ _ | with_reducible refine refSub2 _ ?_ _ ?_ _ | with_reducible refine refNeg2 _ ?_ _ | with_reducible refine refMul2 _ ?_ _ ?_ _ | with_reducible refine refInv2 _ ?_ _ | with_reducible refine refConj2 _ ?_ _ | with_reducible refine refXi2 _ ?_ _ | with_reducible refine refScale2 _ ?_ _ ?_ _ | with_reducible refine one_c _) <;> (with_reducible first | exact Nm.fe _ | exact Nm.F2 _ | assumption | exact nm_one | exact nm_Z6 | (refine Nm.seg (m := 12) ?_ (by decide); assumption) | exact Nm.seg (m := 12) (Nm.F2 _) (by decide) | exact Nm.app2 (.fe _) (.fe _) | exact nm_two | exact nm_rep | exact nm_Z12 | exact Nm.app2 nm_one nm_one | exact Nm.app2 nm_one nm_rep | exact Nm.app2 nm_rep nm_one | exact Nm.app2 nm_two nm_rep | (refine Nm.app2 ?_ nm_Z6; assumption) | exact Nm.app2 (.fe _) nm_Z6 | exact ⟨rfl, words_of _ (by decide)⟩ | fail))⟩) ?_
    | refine take_skip (by rfl) ?_
    | refine wpTake_cons (Steady.of_yields (Or.inl ⟨by rfl, fun w => (by first | (go_simp; done) | (go_simp; with_reducible rfl))⟩)) ?_); simp only [List.getElem_toArray, List.getElem_cons_zero, List.getElem_cons_succ, Act.put, List.setIfInBounds_toArray, List.set_cons_zero, List.set_cons_succ])
  refine wpTake_nil ?_
  refine wpAnyU_end (by kernel_rfl) (fun w6 hq0 => ?_)
  have hq := (drawn_below w5).trans hq0
  have qa6 := qa5.keep hq
  have qb6 := qb5.keep hq
  have qy6 := qy5.keep hq
  have qz6 := qz5.keep hq
  have hb6 := hb5.trans (hq.mono (HSS.out _ hb5))
  clear hq0 hq hb5 qa5 qb5 qy5 qz5
  go_wp2
  go_ret
  exact ⟨rfl, hb6⟩

set_option maxRecDepth 100000 in
set_option maxHeartbeats 4000000 in
theorem conj_w (a : List Int) (ha : Nm 12 a) (b : List Int) (hb : Nm 12 b) (w : World) (hG : GlobD w) : Calls Tryd.prog 8 #[.agg (vals .u64 a), .agg (vals .u64 b)] w fun e w' => e = .returned (.bool true) ∧ Below w.heap.size w w' := by
  by_cases hz : Z2 (v2 a)
  · exact conj_zero a ha b hb w hG hz
  · exact conj_some a ha b hb w hG hz

set_option maxRecDepth 100000 in
set_option maxHeartbeats 4000000 in
theorem frob_w (a : List Int) (ha : Nm 12 a) (w : World) (hG : GlobD w) : Calls Tryd.prog 9 #[.agg (vals .u64 a)] w fun e w' => e = .returned (.bool true) ∧ Below w.heap.size w w' := by
  obtain ⟨S, hS⟩ : ∃ S, w.heap.size = S := ⟨_, rfl⟩
  have qa0 : Has (w.alloc (.cells (vals .u64 a) 26)) (S) 26 (vals .u64 a) := (Has.new' _ hS.symm _ _)
  have hb0 : Below S w (w.alloc (.cells (vals .u64 a) 26)) := by rw [← hS]; exact ((Below.refl _ _).alloc (Nat.le_refl _) _)
  have hsz0 : (w.alloc (.cells (vals .u64 a) 26)).heap.size = S + 1 := by simp only [World.size_alloc, hS]
  have HSS : Keep (∀ x : World, Below S w x → S ≤ x.heap.size) := ⟨fun x hb => Nat.le_trans (by omega) hb.size⟩
  have HD : Keep (∀ x : World, Below S w x → GlobD x) := ⟨fun x hb => hG.keep (by rw [hS]; exact hb)⟩
  have HG : Keep (∀ x : World, Below S w x → Glob x) := ⟨fun x hb => (HD.out x hb).toGlob⟩
  clear hG
  obtain ⟨e, he⟩ : ∃ e, PP.toNat = e := ⟨_, rfl⟩
  have HF : Keep (F2 (gp (v2 a) e) = F2 (gc (v2 a))) := ⟨fr1 _ he⟩
  have P1 : Keep (∀ (y : World) (g : Nat), Has y g 24 (vals .u64 pL) → Glob y → Calls Tryd.prog 30 #[.agg (vals .u64 a), .slice (some ⟨g, 0, none⟩) 6 6] y fun e' w' => e' = .returned (.agg (vals .u64 (F2 (gp (v2 a) e)))) ∧ Below y.heap.size y w') := ⟨fun y g h hG => by
    have h1 := lPow2 a ha (some ⟨g, 0, none⟩) 6 6 pL y.heap.size y hG (Rd.of_has h h.lt (by rfl) (by decide)) pL_words (Nat.le_refl _) (by omega)
    rw [num_pL, he] at h1
    exact h1⟩
  have Lp : Keep (pL.length = 6) := ⟨rfl⟩
  clear he
  rw [hS]
  go_enter Tryd.func9, Tryd.ntmps9
  go_wp2_with (first
    | (refine store_abs2 (by rfl) 24 (.tmp 4) (.tmp 6) (by rfl) (by rfl) (w2.heap.size) (vals .u64 pL) (by rfl) (by rfl) 24 (vals .u64 Z6) (Has.new' _ rfl _ _) (by rw [vals_size, Lp.out]; kernel_rfl) (by rw [vals_size, vals_size, Lp.out]; rfl) vals_one ?_
       intro w3 qp3 hkeep hbg
       have hbe := ((Below.refl w2.heap.size w2).alloc (Nat.le_refl _) (.cells (vals .u64 Z6) 24)).trans hbg
       have Nap := qa2.lt
       have qa3 := qa2.keep hbe
       have Mp : S ≤ w2.heap.size := HSS.out _ hb2
       have hb3 := hb2.trans (hbe.mono Mp)
       clear hkeep hbg hbe hb2 qa2)
    | (have hq0 := hb1
       clear hq0
       go_at_call 35
       refine (fpP_c _ (HG.out _ hb1)).mono ?_
       rintro e w2 ⟨rfl, hq⟩
       have qa2 := qa1.keep hq
       have hb2 := hb1.trans (hq.mono (HSS.out _ hb1))
       clear hq hb1 qa1)
    | (have hq0 := hb0
       clear hq0
       go_at_call 11
       refine (awake_c _ (HD.out _ hb0)).mono ?_
       rintro e w1 ⟨rfl, hq⟩
       have qa1 := qa0.keep hq
       have hb1 := hb0.trans (hq.mono (HSS.out _ hb0))
       clear hq hb0 qa0))
  refine wp_reads 10 0 w3.heap.size (by kernel_rfl) (by kernel_rfl) (by rfl) (by kernel_rfl) (fun _ _ d _ _ h => by cases d <;> exact h) ?_
  simp only [List.take_succ_cons, List.take_zero]
  repeat ((first
    | refine take_eql_t (by rfl) (by rfl) (by rfl) (by rfl) eqok2 gd2 (Nm.len (n := 12) (by with_reducible first | exact Nm.fe _ | exact Nm.F2 _ | assumption | exact nm_one | exact nm_Z6 | (refine Nm.seg (m := 12) ?_ (by decide); assumption) | exact Nm.seg (m := 12) (Nm.F2 _) (by decide) | exact Nm.app2 (.fe _) (.fe _) | exact nm_two | exact nm_rep | exact nm_Z12 | exact Nm.app2 nm_one nm_one | exact Nm.app2 nm_one nm_rep | exact Nm.app2 nm_rep nm_one | exact Nm.app2 nm_two nm_rep | (refine Nm.app2 ?_ nm_Z6; assumption) | exact Nm.app2 (.fe _) nm_Z6 | exact ⟨rfl, words_of _ (by decide)⟩ | fail)) (Nm.len (n := 12) (by with_reducible first | exact Nm.fe _ | exact Nm.F2 _ | assumption | exact nm_one | exact nm_Z6 | (refine Nm.seg (m := 12) ?_ (by decide); assumption) | exact Nm.seg (m := 12) (Nm.F2 _) (by decide) | exact Nm.app2 (.fe _) (.fe _) | exact nm_two | exact nm_rep | exact nm_Z12 | exact Nm.app2 nm_one nm_one | exact Nm.app2 nm_one nm_rep | exact Nm.app2 nm_rep nm_one | exact Nm.app2 nm_two nm_rep | (refine Nm.app2 ?_ nm_Z6; assumption) | exact Nm.app2 (.fe _) nm_Z6 | exact ⟨rfl, words_of _ (by decide)⟩ | fail)) (by with_reducible first | rfl | exact HF.out) ?_
    | refine take_load (by rfl) 24 (by rfl) (g := S) (n := 6) (by rfl) (t := 26) (xs := a) (fun w hw => hw.has qa3 (Nat.ne_of_lt qa3.lt)) Tryd.underlying24 rfl (by kernel_rfl) (by rw [ha.len]; decide) ?_
    | refine take_loadw (by rfl) 26 (by rfl) (g := S) (n := 12) (by rfl) (t := 26) (xs := a) (fun w hw => hw.has qa3 (Nat.ne_of_lt qa3.lt)) Tryd.underlying26 rfl (by kernel_rfl) ha.len ?_
    | refine take_loadw (by rfl) 24 (by rfl) (g := w2.heap.size) (n := 6) (by rfl) (t := 24) (xs := pL) (fun w hw => hw.has qp3 (Nat.ne_of_lt qp3.lt)) Tryd.underlying24 rfl (by kernel_rfl) Lp.out ?_
    | refine wpTake_cons (.inl ⟨by rfl, fun w hw => (by unfold Oper.quietAt; go_simp; (first | with_reducible refine lRed2 _ ?_ _ (HG.out _ (hb3.trans (hw.below (HSS.out _ hb3) (HSS.out _ hb3)))) | with_reducible refine lAdd2 _ ?_ _ ?_ _ (HG.out _ (hb3.trans (hw.below (HSS.out _ hb3) (HSS.out _ hb3)))) | with_reducible refine lSub2 _ ?_ _ ?_ _ (HG.out _ (hb3.trans (hw.below (HSS.out _ hb3) (HSS.out _ hb3)))) | with_reducible refine lNeg2 _ ?_ _ (HG.out _ (hb3.trans (hw.below (HSS.out _ hb3) (HSS.out _ hb3)))) | with_reducible refine lMul2 _ ?_ _ ?_ _ (HG.out _ (hb3.trans (hw.below (HSS.out _ hb3) (HSS.out _ hb3)))) | with_reducible refine lInv2 _ ?_ _ (HD.out _ (hb3.trans (hw.below (HSS.out _ hb3) (HSS.out _ hb3)))) | with_reducible refine lConj2 _ ?_ _ (HG.out _ (hb3.trans (hw.below (HSS.out _ hb3) (HSS.out _ hb3)))) | with_reducible refine lXi2 _ ?_ _ (HG.out _ (hb3.trans (hw.below (HSS.out _ hb3) (HSS.out _ hb3)))) | with_reducible refine lScale2 _ ?_ _ ?_ _ (HG.out _ (hb3.trans (hw.below (HSS.out _ hb3) (HSS.out _ hb3)))) | with_reducible refine P1.out _ _ (hw.has qp3 (Nat.ne_of_lt qp3.lt)) (HG.out _ (hb3.trans (hw.below (HSS.out _ hb3) (HSS.out _ hb3))))) <;> (with_reducible first | exact Nm.fe _ | exact Nm.F2 _ | assumption | exact nm_one | exact nm_Z6 | (refine Nm.seg (m := 12) ?_ (by decide); assumption) | exact Nm.seg (m := 12) (Nm.F2 _) (by decide) | exact Nm.app2 (.fe _) (.fe _) | exact nm_two | exact nm_rep | exact nm_Z12 | exact Nm.app2 nm_one nm_one | exact Nm.app2 nm_one nm_rep | exact Nm.app2 nm_rep nm_one | exact Nm.app2 nm_two nm_rep | (refine Nm.app2 ?_ nm_Z6; assumption) | exact Nm.app2 (.fe _) nm_Z6 | exact ⟨rfl, words_of _ (by decide)⟩ | fail))⟩) ?_
    | refine wpTake_cons (Steady.of_yields (Or.inl ⟨by rfl, fun w => (by first | (go_simp; done) | (go_simp; with_reducible rfl))⟩)) ?_); simp only [List.getElem_toArray, List.getElem_cons_zero, List.getElem_cons_succ, Act.put, List.setIfInBounds_toArray, List.set_cons_zero, List.set_cons_succ])
  refine wpTake_nil ?_
  refine wpAnyU_end (by kernel_rfl) (fun w4 hq0 => ?_)
  have hq := (drawn_below w3).trans hq0
  have qa4 := qa3.keep hq
  have qp4 := qp3.keep hq
  have hb4 := hb3.trans (hq.mono (HSS.out _ hb3))
  clear hq0 hq hb3 qa3 qp3
  go_wp2
  go_ret
  exact ⟨rfl, hb4⟩

set_option maxRecDepth 100000 in
set_option maxHeartbeats 4000000 in
theorem parts_w (a : List Int) (ha : Nm 12 a) (k : List Int) (hk : Nm 6 k) (w : World) (hG : GlobD w) : Calls Tryd.prog 10 #[.agg (vals .u64 a), .agg (vals .u64 k)] w fun e w' => e = .returned (.bool true) ∧ Below w.heap.size w w' := by
  obtain ⟨S, hS⟩ : ∃ S, w.heap.size = S := ⟨_, rfl⟩
  have qa0 : Has ((w.alloc (.cells (vals .u64 a) 26)).alloc (.cells (vals .u64 k) 24)) (S) 26 (vals .u64 a) := ((Has.new' _ hS.symm _ _).alloc _)
  have qk0 : Has ((w.alloc (.cells (vals .u64 a) 26)).alloc (.cells (vals .u64 k) 24)) (S + 1) 24 (vals .u64 k) := (Has.new' _ (by simp only [World.size_alloc, hS]) _ _)
  have hb0 : Below S w ((w.alloc (.cells (vals .u64 a) 26)).alloc (.cells (vals .u64 k) 24)) := by rw [← hS]; exact (((Below.refl _ _).alloc (Nat.le_refl _) _).alloc (by simp <;> omega) _)
  have hsz0 : ((w.alloc (.cells (vals .u64 a) 26)).alloc (.cells (vals .u64 k) 24)).heap.size = S + 2 := by simp only [World.size_alloc, hS]
  have HSS : Keep (∀ x : World, Below S w x → S ≤ x.heap.size) := ⟨fun x hb => Nat.le_trans (by omega) hb.size⟩
  have HD : Keep (∀ x : World, Below S w x → GlobD x) := ⟨fun x hb => hG.keep (by rw [hS]; exact hb)⟩
  have HG : Keep (∀ x : World, Below S w x → Glob x) := ⟨fun x hb => (HD.out x hb).toGlob⟩
  clear hG
  rw [hS]
  go_enter Tryd.func10, Tryd.ntmps10
  go_wp2_with (first
    | (refine store_abs2 (by rfl) 26 (.tmp 7) (.tmp 13) (by rfl) (by rfl) (w3.heap.size) (vals .u64 (F2 (gm (v2 a) (1, 1)))) (by rfl) (by rfl) 26 (vals .u64 Z12) (Has.new' _ rfl _ _) (by rw [vals_size, (Nm.F2 _).len]; kernel_rfl) (by rw [vals_size, vals_size, (Nm.F2 _).len]; rfl) vals_one ?_
       intro w4 qx4 hkeep hbg
       have hbe := ((Below.refl w3.heap.size w3).alloc (Nat.le_refl _) (.cells (vals .u64 Z12) 26)).trans hbg
       have Nax := qa3.lt
       have qa4 := qa3.keep hbe
       have Nkx := qk3.lt
       have qk4 := qk3.keep hbe
       have Ncx := qc3.lt
       have qc4 := qc3.keep hbe
       have Mx : S ≤ w3.heap.size := HSS.out _ hb3
       have hb4 := hb3.trans (hbe.mono Mx)
       clear hkeep hbg hbe hb3 qa3 qk3 qc3)
    | (have hq0 := hb2
       clear hq0
       go_at_call 28
       refine (lXi2 a ha _ (HG.out _ hb2)).mono ?_
       rintro e w3 ⟨rfl, hq⟩
       have qa3 := qa2.keep hq
       have qk3 := qk2.keep hq
       have qc3 := qc2.keep hq
       have hb3 := hb2.trans (hq.mono (HSS.out _ hb2))
       clear hq hb2 qa2 qk2 qc2)
    | (refine wpList_load_row rfl 26 (.tmp 2) rfl (S) rfl _ _ _ _ qa2.eq Tryd.underlying26 rfl (by rw [vals_size, ha.len]; kernel_rfl) ?_)
    | (refine store_abs2 (by rfl) 26 (.tmp 6) (.tmp 11) (by rfl) (by rfl) (w1.heap.size) (vals .u64 [1, 0, 0, 0, 0, 0, 1, 0, 0, 0, 0, 0]) (by rfl) (by rfl) 26 (vals .u64 Z12) (Has.new' _ rfl _ _) (by rw [vals_size, (show List.length _ = 12 from rfl)]; kernel_rfl) (by rw [vals_size, vals_size, (show List.length _ = 12 from rfl)]; rfl) vals_one ?_
       intro w2 qc2 hkeep hbg
       have hbe := ((Below.refl w1.heap.size w1).alloc (Nat.le_refl _) (.cells (vals .u64 Z12) 26)).trans hbg
       have Nac := qa1.lt
       have qa2 := qa1.keep hbe
       have Nkc := qk1.lt
       have qk2 := qk1.keep hbe
       have Mc : S ≤ w1.heap.size := HSS.out _ hb1
       have hb2 := hb1.trans (hbe.mono Mc)
       clear hkeep hbg hbe hb1 qa1 qk1)
    | (refine wpList_buildTo (by rfl) 26 #[(0, .tmp 9), (1, .tmp 10)] (by rfl) (some 11) (by rfl) (vals .u64 [1, 0, 0, 0, 0, 0, 1, 0, 0, 0, 0, 0]) (by kernel_rfl) ?_)
    | (refine wpList_buildTo (by rfl) 24 #[(0, .const (.int .u64 1))] (by rfl) (some 10) (by rfl) (vals .u64 [1, 0, 0, 0, 0, 0]) (by kernel_rfl) ?_)
    | (refine wpList_buildTo (by rfl) 24 #[(0, .const (.int .u64 1))] (by rfl) (some 9) (by rfl) (vals .u64 [1, 0, 0, 0, 0, 0]) (by kernel_rfl) ?_)
    | (have hq0 := hb0
       clear hq0
       go_at_call 11
       refine (awake_c _ (HD.out _ hb0)).mono ?_
       rintro e w1 ⟨rfl, hq⟩
       have qa1 := qa0.keep hq
       have qk1 := qk0.keep hq
       have hb1 := hb0.trans (hq.mono (HSS.out _ hb0))
       clear hq hb0 qa0 qk0))
  refine wp_reads 39 0 w4.heap.size (by kernel_rfl) (by kernel_rfl) (by rfl) (by kernel_rfl) (fun _ _ d _ _ h => by cases d <;> exact h) ?_
  simp only [List.take_succ_cons, List.take_zero]
  repeat ((first
    | refine take_eql_t (by rfl) (by rfl) (by rfl) (by rfl) eqok2 gd2 (Nm.len (n := 12) (by with_reducible first | exact Nm.fe _ | exact Nm.F2 _ | assumption | exact nm_one | exact nm_Z6 | (refine Nm.seg (m := 12) ?_ (by decide); assumption) | exact Nm.seg (m := 12) (Nm.F2 _) (by decide) | exact Nm.app2 (.fe _) (.fe _) | exact nm_two | exact nm_rep | exact nm_Z12 | exact Nm.app2 nm_one nm_one | exact Nm.app2 nm_one nm_rep | exact Nm.app2 nm_rep nm_one | exact Nm.app2 nm_two nm_rep | (refine Nm.app2 ?_ nm_Z6; assumption) | exact Nm.app2 (.fe _) nm_Z6 | exact ⟨rfl, words_of _ (by decide)⟩ | fail)) (Nm.len (n := 12) (by with_reducible first | exact Nm.fe _ | exact Nm.F2 _ | assumption | exact nm_one | exact nm_Z6 | (refine Nm.seg (m := 12) ?_ (by decide); assumption) | exact Nm.seg (m := 12) (Nm.F2 _) (by decide) | exact Nm.app2 (.fe _) (.fe _) | exact nm_two | exact nm_rep | exact nm_Z12 | exact Nm.app2 nm_one nm_one | exact Nm.app2 nm_one nm_rep | exact Nm.app2 nm_rep nm_one | exact Nm.app2 nm_two nm_rep | (refine Nm.app2 ?_ nm_Z6; assumption) | exact Nm.app2 (.fe _) nm_Z6 | exact ⟨rfl, words_of _ (by decide)⟩ | fail)) (by with_reducible first | rfl | exact pt1 _ hk | exact pt2 _) ?_
    | refine take_eql_t (by rfl) (by rfl) (by rfl) (by rfl) eqokF gdF (Nm.len (n := 6) (by with_reducible first | exact Nm.fe _ | exact Nm.F2 _ | assumption | exact nm_one | exact nm_Z6 | (refine Nm.seg (m := 12) ?_ (by decide); assumption) | exact Nm.seg (m := 12) (Nm.F2 _) (by decide) | exact Nm.app2 (.fe _) (.fe _) | exact nm_two | exact nm_rep | exact nm_Z12 | exact Nm.app2 nm_one nm_one | exact Nm.app2 nm_one nm_rep | exact Nm.app2 nm_rep nm_one | exact Nm.app2 nm_two nm_rep | (refine Nm.app2 ?_ nm_Z6; assumption) | exact Nm.app2 (.fe _) nm_Z6 | exact ⟨rfl, words_of _ (by decide)⟩ | fail)) (Nm.len (n := 6) (by with_reducible first | exact Nm.fe _ | exact Nm.F2 _ | assumption | exact nm_one | exact nm_Z6 | (refine Nm.seg (m := 12) ?_ (by decide); assumption) | exact Nm.seg (m := 12) (Nm.F2 _) (by decide) | exact Nm.app2 (.fe _) (.fe _) | exact nm_two | exact nm_rep | exact nm_Z12 | exact Nm.app2 nm_one nm_one | exact Nm.app2 nm_one nm_rep | exact Nm.app2 nm_rep nm_one | exact Nm.app2 nm_two nm_rep | (refine Nm.app2 ?_ nm_Z6; assumption) | exact Nm.app2 (.fe _) nm_Z6 | exact ⟨rfl, words_of _ (by decide)⟩ | fail)) (by with_reducible first | rfl | exact pt3 _ | exact pt4 _) ?_
    | refine take_load (by rfl) 24 (by rfl) (g := S) (n := 6) (by rfl) (t := 26) (xs := a) (fun w hw => hw.has qa4 (Nat.ne_of_lt qa4.lt)) Tryd.underlying24 rfl (by kernel_rfl) (by rw [ha.len]; decide) ?_
    | refine take_loadw (by rfl) 26 (by rfl) (g := S) (n := 12) (by rfl) (t := 26) (xs := a) (fun w hw => hw.has qa4 (Nat.ne_of_lt qa4.lt)) Tryd.underlying26 rfl (by kernel_rfl) ha.len ?_
    | refine take_loadw (by rfl) 24 (by rfl) (g := S + 1) (n := 6) (by rfl) (t := 24) (xs := k) (fun w hw => hw.has qk4 (Nat.ne_of_lt qk4.lt)) Tryd.underlying24 rfl (by kernel_rfl) hk.len ?_
    | refine take_load (by rfl) 24 (by rfl) (g := w1.heap.size) (n := 6) (by rfl) (t := 26) (xs := [1, 0, 0, 0, 0, 0, 1, 0, 0, 0, 0, 0]) (fun w hw => hw.has qc4 (Nat.ne_of_lt qc4.lt)) Tryd.underlying24 rfl (by kernel_rfl) (by rw [(show List.length _ = 12 from rfl)]; decide) ?_
    | refine take_loadw (by rfl) 26 (by rfl) (g := w1.heap.size) (n := 12) (by rfl) (t := 26) (xs := [1, 0, 0, 0, 0, 0, 1, 0, 0, 0, 0, 0]) (fun w hw => hw.has qc4 (Nat.ne_of_lt qc4.lt)) Tryd.underlying26 rfl (by kernel_rfl) (show List.length _ = 12 from rfl) ?_
    | refine take_load (by rfl) 24 (by rfl) (g := w3.heap.size) (n := 6) (by rfl) (t := 26) (xs := (F2 (gm (v2 a) (1, 1)))) (fun w hw => hw.has qx4 (Nat.ne_of_lt qx4.lt)) Tryd.underlying24 rfl (by kernel_rfl) (by rw [(Nm.F2 _).len]; decide) ?_
    | refine take_loadw (by rfl) 26 (by rfl) (g := w3.heap.size) (n := 12) (by rfl) (t := 26) (xs := (F2 (gm (v2 a) (1, 1)))) (fun w hw => hw.has qx4 (Nat.ne_of_lt qx4.lt)) Tryd.underlying26 rfl (by kernel_rfl) (Nm.F2 _).len ?_
    | refine take_build (by rfl) (by rfl) (by refine build2z ?_ <;> (with_reducible first | exact Nm.fe _ | exact Nm.F2 _ | assumption | exact nm_one | exact nm_Z6 | (refine Nm.seg (m := 12) ?_ (by decide); assumption) | exact Nm.seg (m := 12) (Nm.F2 _) (by decide) | exact Nm.app2 (.fe _) (.fe _) | exact nm_two | exact nm_rep | exact nm_Z12 | exact Nm.app2 nm_one nm_one | exact Nm.app2 nm_one nm_rep | exact Nm.app2 nm_rep nm_one | exact Nm.app2 nm_two nm_rep | (refine Nm.app2 ?_ nm_Z6; assumption) | exact Nm.app2 (.fe _) nm_Z6 | exact ⟨rfl, words_of _ (by decide)⟩ | fail)) ?_
    | refine wpTake_cons (.inl ⟨by rfl, fun w hw => (by unfold Oper.quietAt; go_simp; (first | with_reducible refine lRed2 _ ?_ _ (HG.out _ (hb4.trans (hw.below (HSS.out _ hb4) (HSS.out _ hb4)))) | with_reducible refine lAdd2 _ ?_ _ ?_ _ (HG.out _ (hb4.trans (hw.below (HSS.out _ hb4) (HSS.out _ hb4)))) | with_reducible refine lSub2 _ ?_ _ ?_ _ (HG.out _ (hb4.trans (hw.below (HSS.out _ hb4) (HSS.out _ hb4)))) | with_reducible refine lNeg2 _ ?_ _ (HG.out _ (hb4.trans (hw.below (HSS.out _ hb4) (HSS.out _ hb4)))) | with_reducible refine lMul2 _ ?_ _ ?_ _ (HG.out _ (hb4.trans (hw.below (HSS.out _ hb4) (HSS.out _ hb4)))) | with_reducible refine lInv2 _ ?_ _ (HD.out _ (hb4.trans (hw.below (HSS.out _ hb4) (HSS.out _ hb4)))) | with_reducible refine lConj2 _ ?_ _ (HG.out _ (hb4.trans (hw.below (HSS.out _ hb4) (HSS.out _ hb4)))) | with_reducible refine lXi2 _ ?_ _ (HG.out _ (hb4.trans (hw.below (HSS.out _ hb4) (HSS.out _ hb4)))) | with_reducible refine lScale2 _ ?_ _ ?_ _ (HG.out _ (hb4.trans (hw.below (HSS.out _ hb4) (HSS.out _ hb4)))) | with_reducible refine pAdd ?_ ?_ _ (HG.out _ (hb4.trans (hw.below (HSS.out _ hb4) (HSS.out _ hb4)))) | with_reducible refine pSub ?_ ?_ _ (HG.out _ (hb4.trans (hw.below (HSS.out _ hb4) (HSS.out _ hb4)))) | with_reducible refine pMul ?_ ?_ _ (HG.out _ (hb4.trans (hw.below (HSS.out _ hb4) (HSS.out _ hb4))))) <;> (with_reducible first | exact Nm.fe _ | exact Nm.F2 _ | assumption | exact nm_one | exact nm_Z6 | (refine Nm.seg (m := 12) ?_ (by decide); assumption) | exact Nm.seg (m := 12) (Nm.F2 _) (by decide) | exact Nm.app2 (.fe _) (.fe _) | exact nm_two | exact nm_rep | exact nm_Z12 | exact Nm.app2 nm_one nm_one | exact Nm.app2 nm_one nm_rep | exact Nm.app2 nm_rep nm_one | exact Nm.app2 nm_two nm_rep | (refine Nm.app2 ?_ nm_Z6; assumption) | exact Nm.app2 (.fe _) nm_Z6 | exact ⟨rfl, words_of _ (by decide)⟩ | fail))⟩) ?_
    | refine wpTake_cons (Steady.of_yields (Or.inl ⟨by rfl, fun w => (by first | (go_simp; done) | (go_simp; with_reducible rfl))⟩)) ?_); simp only [List.getElem_toArray, List.getElem_cons_zero, List.getElem_cons_succ, Act.put, List.setIfInBounds_toArray, List.set_cons_zero, List.set_cons_succ])
  refine wpTake_nil ?_
  refine wpAnyU_end (by kernel_rfl) (fun w5 hq0 => ?_)
  have hq := (drawn_below w4).trans hq0
  have qa5 := qa4.keep hq
  have qk5 := qk4.keep hq
  have qc5 := qc4.keep hq
  have qx5 := qx4.keep hq
  have hb5 := hb4.trans (hq.mono (HSS.out _ hb4))
  clear hq0 hq hb4 qa4 qk4 qc4 qx4
  go_wp2
  go_ret
  exact ⟨rfl, hb5⟩

end Go.Proofs.YtdldebceailgdaaDoor.Fp2
