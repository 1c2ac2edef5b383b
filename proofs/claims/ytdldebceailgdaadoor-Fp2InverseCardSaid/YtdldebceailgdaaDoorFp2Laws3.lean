/-
  Own text. The walks of layer 7's statements: inverses.
-/
import Derived.Test.YtdldebceailgdaaDoorFp2Awake
import Derived.Test.YtdldebceailgdaaDoorFp2Math
namespace Go.Proofs.YtdldebceailgdaaDoor.Fp2
set_option linter.unusedVariables false
set_option linter.unusedSimpArgs false
open Go Go.RowKit Go.Proofs.YtdldebceailgdaaDoor.Reg Go.Proofs.YtdldebceailgdaaDoor.Base Go.Proofs.YtdldebceailgdaaDoor.Limb Go.Proofs.YtdldebceailgdaaDoor.Fp

set_option maxRecDepth 100000 in
set_option maxHeartbeats 4000000 in
theorem inverse_zero (a : List Int) (ha : Nm 12 a) (b : List Int) (hb : Nm 12 b) (w : World) (hG : GlobD w) (hz : Z2 (v2 a)) : Calls Tryd.prog 7 #[.agg (vals .u64 a), .agg (vals .u64 b)] w fun e w' => e = .returned (.bool true) ∧ Below w.heap.size w w' := by
  obtain ⟨S, hS⟩ : ∃ S, w.heap.size = S := ⟨_, rfl⟩
  have qa0 : Has ((w.alloc (.cells (vals .u64 a) 26)).alloc (.cells (vals .u64 b) 26)) (S) 26 (vals .u64 a) := ((Has.new' _ hS.symm _ _).alloc _)
  have qb0 : Has ((w.alloc (.cells (vals .u64 a) 26)).alloc (.cells (vals .u64 b) 26)) (S + 1) 26 (vals .u64 b) := (Has.new' _ (by simp only [World.size_alloc, hS]) _ _)
  have hb0 : Below S w ((w.alloc (.cells (vals .u64 a) 26)).alloc (.cells (vals .u64 b) 26)) := by rw [← hS]; exact (((Below.refl _ _).alloc (Nat.le_refl _) _).alloc (by simp <;> omega) _)
  have hsz0 : ((w.alloc (.cells (vals .u64 a) 26)).alloc (.cells (vals .u64 b) 26)).heap.size = S + 2 := by simp only [World.size_alloc, hS]
  have HSS : Keep (∀ x : World, Below S w x → S ≤ x.heap.size) := ⟨fun x hb => Nat.le_trans (by omega) hb.size⟩
  have HD : Keep (∀ x : World, Below S w x → GlobD x) := ⟨fun x hb => hG.keep (by rw [hS]; exact hb)⟩
  have HG : Keep (∀ x : World, Below S w x → Glob x) := ⟨fun x hb => (HD.out x hb).toGlob⟩
  clear hG
  have hx0 : Keep (F2 (v2 a) = [0, 0, 0, 0, 0, 0, 0, 0, 0, 0, 0, 0]) := ⟨(F2_zero _).2 hz⟩
  have hi0 : Keep (F2 (gi (v2 a)) = [0, 0, 0, 0, 0, 0, 0, 0, 0, 0, 0, 0]) := ⟨(F2_zero _).2 (gi_zero hz)⟩
  have hm0 : Keep (F2 (gm (v2 a) (v2 b)) = [0, 0, 0, 0, 0, 0, 0, 0, 0, 0, 0, 0]) := ⟨(F2_zero _).2 (gm_zl hz)⟩
  clear hz
  rw [hS]
  go_enter Tryd.func7, Tryd.ntmps7
  go_wp2_with (first
    | (refine store_abs2 (by rfl) 26 (.tmp 8) (.tmp 16) (by rfl) (by rfl) (w5.heap.size) (vals .u64 (F2 (v2 a))) (by rfl) (by rfl) 26 (vals .u64 Z12) (Has.new' _ rfl _ _) (by rw [vals_size, (Nm.F2 _).len]; kernel_rfl) (by rw [vals_size, vals_size, (Nm.F2 _).len]; rfl) vals_one ?_
       intro w6 qx6 hkeep hbg
       have hbe := ((Below.refl w5.heap.size w5).alloc (Nat.le_refl _) (.cells (vals .u64 Z12) 26)).trans hbg
       have Nax := qa5.lt
       have qa6 := qa5.keep hbe
       have Nbx := qb5.lt
       have qb6 := qb5.keep hbe
       have Nzx := qz5.lt
       have qz6 := qz5.keep hbe
       have Nix := qi5.lt
       have qi6 := qi5.keep hbe
       have Mx : S ≤ w5.heap.size := HSS.out _ hb5
       have hb6 := hb5.trans (hbe.mono Mx)
       clear hkeep hbg hbe hb5 qa5 qb5 qz5 qi5)
    | (have hq0 := hb4
       clear hq0
       go_at_call 12
       refine (lRed2 a ha _ (HG.out _ hb4)).mono ?_
       rintro e w5 ⟨rfl, hq⟩
       have qa5 := qa4.keep hq
       have qb5 := qb4.keep hq
       have qz5 := qz4.keep hq
       have qi5 := qi4.keep hq
       have hb5 := hb4.trans (hq.mono (HSS.out _ hb4))
       clear hq hb4 qa4 qb4 qz4 qi4)
    | (refine wpList_load_row rfl 26 (.tmp 2) rfl (S) rfl _ _ _ _ qa4.eq Tryd.underlying26 rfl (by rw [vals_size, ha.len]; kernel_rfl) ?_)
    | (refine store_abs2 (by rfl) 26 (.tmp 7) (.tmp 14) (by rfl) (by rfl) (w3.heap.size) (vals .u64 (F2 (gi (v2 a)))) (by rfl) (by rfl) 26 (vals .u64 Z12) (Has.new' _ rfl _ _) (by rw [vals_size, (Nm.F2 _).len]; kernel_rfl) (by rw [vals_size, vals_size, (Nm.F2 _).len]; rfl) vals_one ?_
       intro w4 qi4 hkeep hbg
       have hbe := ((Below.refl w3.heap.size w3).alloc (Nat.le_refl _) (.cells (vals .u64 Z12) 26)).trans hbg
       have Nai := qa3.lt
       have qa4 := qa3.keep hbe
       have Nbi := qb3.lt
       have qb4 := qb3.keep hbe
       have Nzi := qz3.lt
       have qz4 := qz3.keep hbe
       have Mi : S ≤ w3.heap.size := HSS.out _ hb3
       have hb4 := hb3.trans (hbe.mono Mi)
       clear hkeep hbg hbe hb3 qa3 qb3 qz3)
    | (have hq0 := hb2
       clear hq0
       go_at_call 26
       refine (lInv2 a ha _ (HD.out _ hb2)).mono ?_
       rintro e w3 ⟨rfl, hq⟩
       have qa3 := qa2.keep hq
       have qb3 := qb2.keep hq
       have qz3 := qz2.keep hq
       have hb3 := hb2.trans (hq.mono (HSS.out _ hb2))
       clear hq hb2 qa2 qb2 qz2)
    | (refine wpList_load_row rfl 26 (.tmp 2) rfl (S) rfl _ _ _ _ qa2.eq Tryd.underlying26 rfl (by rw [vals_size, ha.len]; kernel_rfl) ?_)
    | (refine store_abs2 (by rfl) 26 (.tmp 6) (.tmp 12) (by rfl) (by rfl) (w1.heap.size) (vals .u64 [0, 0, 0, 0, 0, 0, 0, 0, 0, 0, 0, 0]) (by rfl) (by rfl) 26 (vals .u64 Z12) (Has.new' _ rfl _ _) (by rw [vals_size, (show List.length _ = 12 from rfl)]; kernel_rfl) (by rw [vals_size, vals_size, (show List.length _ = 12 from rfl)]; rfl) vals_one ?_
       intro w2 qz2 hkeep hbg
       have hbe := ((Below.refl w1.heap.size w1).alloc (Nat.le_refl _) (.cells (vals .u64 Z12) 26)).trans hbg
       have Naz := qa1.lt
       have qa2 := qa1.keep hbe
       have Nbz := qb1.lt
       have qb2 := qb1.keep hbe
       have Mz : S ≤ w1.heap.size := HSS.out _ hb1
       have hb2 := hb1.trans (hbe.mono Mz)
       clear hkeep hbg hbe hb1 qa1 qb1)
    | (refine wpList_buildTo (by rfl) 26 #[] (by rfl) (some 12) (by rfl) (vals .u64 [0, 0, 0, 0, 0, 0, 0, 0, 0, 0, 0, 0]) (by kernel_rfl) ?_)
    | (have hq0 := hb0
       clear hq0
       go_at_call 11
       refine (awake_c _ (HD.out _ hb0)).mono ?_
       rintro e w1 ⟨rfl, hq⟩
       have qa1 := qa0.keep hq
       have qb1 := qb0.keep hq
       have hb1 := hb0.trans (hq.mono (HSS.out _ hb0))
       clear hq hb0 qa0 qb0))
  refine wp_reads 27 0 w6.heap.size (by kernel_rfl) (by kernel_rfl) (by rfl) (by kernel_rfl) (fun _ _ d _ _ h => by cases d <;> exact h) ?_
  simp only [List.take_succ_cons, List.take_zero]
  repeat ((first
    | refine take_eql_t (by rfl) (by rfl) (by rfl) (by rfl) eqok2 gd2 (Nm.len (n := 12) (by with_reducible first | exact Nm.fe _ | exact Nm.F2 _ | assumption | exact nm_one | exact nm_Z6 | (refine Nm.seg (m := 12) ?_ (by decide); assumption) | exact Nm.seg (m := 12) (Nm.F2 _) (by decide) | exact Nm.app2 (.fe _) (.fe _) | exact nm_two | exact nm_rep | exact nm_Z12 | exact Nm.app2 nm_one nm_one | exact Nm.app2 nm_one nm_rep | exact Nm.app2 nm_rep nm_one | exact Nm.app2 nm_two nm_rep | (refine Nm.app2 ?_ nm_Z6; assumption) | exact Nm.app2 (.fe _) nm_Z6 | exact ⟨rfl, words_of _ (by decide)⟩ | fail)) (Nm.len (n := 12) (by with_reducible first | exact Nm.fe _ | exact Nm.F2 _ | assumption | exact nm_one | exact nm_Z6 | (refine Nm.seg (m := 12) ?_ (by decide); assumption) | exact Nm.seg (m := 12) (Nm.F2 _) (by decide) | exact Nm.app2 (.fe _) (.fe _) | exact nm_two | exact nm_rep | exact nm_Z12 | exact Nm.app2 nm_one nm_one | exact Nm.app2 nm_one nm_rep | exact Nm.app2 nm_rep nm_one | exact Nm.app2 nm_two nm_rep | (refine Nm.app2 ?_ nm_Z6; assumption) | exact Nm.app2 (.fe _) nm_Z6 | exact ⟨rfl, words_of _ (by decide)⟩ | fail)) (by with_reducible first | rfl | exact hx0.out | exact hi0.out | exact hm0.out) ?_
    | refine take_neq_t (by rfl) (by rfl) (by rfl) (by rfl) eqok2 gd2 (Nm.len (n := 12) (by with_reducible first | exact Nm.fe _ | exact Nm.F2 _ | assumption | exact nm_one | exact nm_Z6 | (refine Nm.seg (m := 12) ?_ (by decide); assumption) | exact Nm.seg (m := 12) (Nm.F2 _) (by decide) | exact Nm.app2 (.fe _) (.fe _) | exact nm_two | exact nm_rep | exact nm_Z12 | exact Nm.app2 nm_one nm_one | exact Nm.app2 nm_one nm_rep | exact Nm.app2 nm_rep nm_one | exact Nm.app2 nm_two nm_rep | (refine Nm.app2 ?_ nm_Z6; assumption) | exact Nm.app2 (.fe _) nm_Z6 | exact ⟨rfl, words_of _ (by decide)⟩ | fail)) (Nm.len (n := 12) (by with_reducible first | exact Nm.fe _ | exact Nm.F2 _ | assumption | exact nm_one | exact nm_Z6 | (refine Nm.seg (m := 12) ?_ (by decide); assumption) | exact Nm.seg (m := 12) (Nm.F2 _) (by decide) | exact Nm.app2 (.fe _) (.fe _) | exact nm_two | exact nm_rep | exact nm_Z12 | exact Nm.app2 nm_one nm_one | exact Nm.app2 nm_one nm_rep | exact Nm.app2 nm_rep nm_one | exact Nm.app2 nm_two nm_rep | (refine Nm.app2 ?_ nm_Z6; assumption) | exact Nm.app2 (.fe _) nm_Z6 | exact ⟨rfl, words_of _ (by decide)⟩ | fail)) (by with_reducible first | rfl | exact hx0.out | exact hi0.out | exact hm0.out) ?_
    | refine take_eql_f (by rfl) (by rfl) (by rfl) (by rfl) eqok2 gd2 (Nm.len (n := 12) (by with_reducible first | exact Nm.fe _ | exact Nm.F2 _ | assumption | exact nm_one | exact nm_Z6 | (refine Nm.seg (m := 12) ?_ (by decide); assumption) | exact Nm.seg (m := 12) (Nm.F2 _) (by decide) | exact Nm.app2 (.fe _) (.fe _) | exact nm_two | exact nm_rep | exact nm_Z12 | exact Nm.app2 nm_one nm_one | exact Nm.app2 nm_one nm_rep | exact Nm.app2 nm_rep nm_one | exact Nm.app2 nm_two nm_rep | (refine Nm.app2 ?_ nm_Z6; assumption) | exact Nm.app2 (.fe _) nm_Z6 | exact ⟨rfl, words_of _ (by decide)⟩ | fail)) (Nm.len (n := 12) (by with_reducible first | exact Nm.fe _ | exact Nm.F2 _ | assumption | exact nm_one | exact nm_Z6 | (refine Nm.seg (m := 12) ?_ (by decide); assumption) | exact Nm.seg (m := 12) (Nm.F2 _) (by decide) | exact Nm.app2 (.fe _) (.fe _) | exact nm_two | exact nm_rep | exact nm_Z12 | exact Nm.app2 nm_one nm_one | exact Nm.app2 nm_one nm_rep | exact Nm.app2 nm_rep nm_one | exact Nm.app2 nm_two nm_rep | (refine Nm.app2 ?_ nm_Z6; assumption) | exact Nm.app2 (.fe _) nm_Z6 | exact ⟨rfl, words_of _ (by decide)⟩ | fail)) (by with_reducible first | assumption) ?_
    | refine take_neq_f (by rfl) (by rfl) (by rfl) (by rfl) eqok2 gd2 (Nm.len (n := 12) (by with_reducible first | exact Nm.fe _ | exact Nm.F2 _ | assumption | exact nm_one | exact nm_Z6 | (refine Nm.seg (m := 12) ?_ (by decide); assumption) | exact Nm.seg (m := 12) (Nm.F2 _) (by decide) | exact Nm.app2 (.fe _) (.fe _) | exact nm_two | exact nm_rep | exact nm_Z12 | exact Nm.app2 nm_one nm_one | exact Nm.app2 nm_one nm_rep | exact Nm.app2 nm_rep nm_one | exact Nm.app2 nm_two nm_rep | (refine Nm.app2 ?_ nm_Z6; assumption) | exact Nm.app2 (.fe _) nm_Z6 | exact ⟨rfl, words_of _ (by decide)⟩ | fail)) (Nm.len (n := 12) (by with_reducible first | exact Nm.fe _ | exact Nm.F2 _ | assumption | exact nm_one | exact nm_Z6 | (refine Nm.seg (m := 12) ?_ (by decide); assumption) | exact Nm.seg (m := 12) (Nm.F2 _) (by decide) | exact Nm.app2 (.fe _) (.fe _) | exact nm_two | exact nm_rep | exact nm_Z12 | exact Nm.app2 nm_one nm_one | exact Nm.app2 nm_one nm_rep | exact Nm.app2 nm_rep nm_one | exact Nm.app2 nm_two nm_rep | (refine Nm.app2 ?_ nm_Z6; assumption) | exact Nm.app2 (.fe _) nm_Z6 | exact ⟨rfl, words_of _ (by decide)⟩ | fail)) (by with_reducible first | assumption) ?_
    | refine take_load (by rfl) 24 (by rfl) (g := S) (n := 6) (by rfl) (t := 26) (xs := a) (fun w hw => hw.has qa6 (Nat.ne_of_lt qa6.lt)) Tryd.underlying24 rfl (by kernel_rfl) (by rw [ha.len]; decide) ?_
    | refine take_loadw (by rfl) 26 (by rfl) (g := S) (n := 12) (by rfl) (t := 26) (xs := a) (fun w hw => hw.has qa6 (Nat.ne_of_lt qa6.lt)) Tryd.underlying26 rfl (by kernel_rfl) ha.len ?_
    | refine take_load (by rfl) 24 (by rfl) (g := S + 1) (n := 6) (by rfl) (t := 26) (xs := b) (fun w hw => hw.has qb6 (Nat.ne_of_lt qb6.lt)) Tryd.underlying24 rfl (by kernel_rfl) (by rw [hb.len]; decide) ?_
    | refine take_loadw (by rfl) 26 (by rfl) (g := S + 1) (n := 12) (by rfl) (t := 26) (xs := b) (fun w hw => hw.has qb6 (Nat.ne_of_lt qb6.lt)) Tryd.underlying26 rfl (by kernel_rfl) hb.len ?_
    | refine take_load (by rfl) 24 (by rfl) (g := w1.heap.size) (n := 6) (by rfl) (t := 26) (xs := [0, 0, 0, 0, 0, 0, 0, 0, 0, 0, 0, 0]) (fun w hw => hw.has qz6 (Nat.ne_of_lt qz6.lt)) Tryd.underlying24 rfl (by kernel_rfl) (by rw [(show List.length _ = 12 from rfl)]; decide) ?_
    | refine take_loadw (by rfl) 26 (by rfl) (g := w1.heap.size) (n := 12) (by rfl) (t := 26) (xs := [0, 0, 0, 0, 0, 0, 0, 0, 0, 0, 0, 0]) (fun w hw => hw.has qz6 (Nat.ne_of_lt qz6.lt)) Tryd.underlying26 rfl (by kernel_rfl) (show List.length _ = 12 from rfl) ?_
    | refine take_load (by rfl) 24 (by rfl) (g := w3.heap.size) (n := 6) (by rfl) (t := 26) (xs := (F2 (gi (v2 a)))) (fun w hw => hw.has qi6 (Nat.ne_of_lt qi6.lt)) Tryd.underlying24 rfl (by kernel_rfl) (by rw [(Nm.F2 _).len]; decide) ?_
    | refine take_loadw (by rfl) 26 (by rfl) (g := w3.heap.size) (n := 12) (by rfl) (t := 26) (xs := (F2 (gi (v2 a)))) (fun w hw => hw.has qi6 (Nat.ne_of_lt qi6.lt)) Tryd.underlying26 rfl (by kernel_rfl) (Nm.F2 _).len ?_
    | refine take_load (by rfl) 24 (by rfl) (g := w5.heap.size) (n := 6) (by rfl) (t := 26) (xs := (F2 (v2 a))) (fun w hw => hw.has qx6 (Nat.ne_of_lt qx6.lt)) Tryd.underlying24 rfl (by kernel_rfl) (by rw [(Nm.F2 _).len]; decide) ?_
    | refine take_loadw (by rfl) 26 (by rfl) (g := w5.heap.size) (n := 12) (by rfl) (t := 26) (xs := (F2 (v2 a))) (fun w hw => hw.has qx6 (Nat.ne_of_lt qx6.lt)) Tryd.underlying26 rfl (by kernel_rfl) (Nm.F2 _).len ?_
    | refine wpTake_cons (.inl ⟨by rfl, fun w hw => (by unfold Oper.quietAt; go_simp; (first | with_reducible refine lRed2 _ ?_ _ (HG.out _ (hb6.trans (hw.below (HSS.out _ hb6) (HSS.out _ hb6)))) | with_reducible refine lAdd2 _ ?_ _ ?_ _ (HG.out _ (hb6.trans (hw.below (HSS.out _ hb6) (HSS.out _ hb6)))) | with_reducible refine lSub2 _ ?_ _ ?_ _ (HG.out _ (hb6.trans (hw.below (HSS.out _ hb6) (HSS.out _ hb6)))) | with_reducible refine lNeg2 _ ?_ _ (HG.out _ (hb6.trans (hw.below (HSS.out _ hb6) (HSS.out _ hb6)))) | with_reducible refine lMul2 _ ?_ _ ?_ _ (HG.out _ (hb6.trans (hw.below (HSS.out _ hb6) (HSS.out _ hb6)))) | with_reducible refine lInv2 _ ?_ _ (HD.out _ (hb6.trans (hw.below (HSS.out _ hb6) (HSS.out _ hb6)))) | with_reducible refine lConj2 _ ?_ _ (HG.out _ (hb6.trans (hw.below (HSS.out _ hb6) (HSS.out _ hb6)))) | with_reducible refine lXi2 _ ?_ _ (HG.out _ (hb6.trans (hw.below (HSS.out _ hb6) (HSS.out _ hb6)))) | with_reducible refine lScale2 _ ?_ _ ?_ _ (HG.out _ (hb6.trans (hw.below (HSS.out _ hb6) (HSS.out _ hb6)))) | with_reducible refine refRed2 _ ?_ _ | with_reducible refine refAdd2 _ ?_ _ ?_ _ | with_reducible refine refSub2 _ ?_ _ ?_ _ | with_reducible refine refNeg2 _ ?_ _ | with_reducible refine refMul2 _ ?_ _ ?_ _ | with_reducible refine refInv2 _ ?_ _ | with_reducible refine refConj2 _ ?_ _ | with_reducible refine refXi2 _ ?_ _ | with_reducible refine refScale2 _ ?_ _ ?_ _ | with_reducible refine one_c _) <;> (with_reducible first | exact Nm.fe _ | exact Nm.F2 _ | assumption | exact nm_one | exact nm_Z6 | (refine Nm.seg (m := 12) ?_ (by decide); assumption) | exact Nm.seg (m := 12) (Nm.F2 _) (by decide) | exact Nm.app2 (.fe _) (.fe _) | exact nm_two | exact nm_rep | exact nm_Z12 | exact Nm.app2 nm_one nm_one | exact Nm.app2 nm_one nm_rep | exact Nm.app2 nm_rep nm_one | exact Nm.app2 nm_two nm_rep | (refine Nm.app2 ?_ nm_Z6; assumption) | exact Nm.app2 (.fe _) nm_Z6 | exact ⟨rfl, words_of _ (by decide)⟩ | fail))⟩) ?_
    | refine take_skip (by rfl) ?_
    | refine wpTake_cons (Steady.of_yields (Or.inl ⟨by rfl, fun w => (by first | (go_simp; done) | (go_simp; with_reducible rfl))⟩)) ?_); simp only [List.getElem_toArray, List.getElem_cons_zero, List.getElem_cons_succ, Act.put, List.setIfInBounds_toArray, List.set_cons_zero, List.set_cons_succ])
  refine wpTake_nil ?_
  refine wpAnyU_end (by kernel_rfl) (fun w7 hq0 => ?_)
  have hq := (drawn_below w6).trans hq0
  have qa7 := qa6.keep hq
  have qb7 := qb6.keep hq
  have qz7 := qz6.keep hq
  have qi7 := qi6.keep hq
  have qx7 := qx6.keep hq
  have hb7 := hb6.trans (hq.mono (HSS.out _ hb6))
  clear hq0 hq hb6 qa6 qb6 qz6 qi6 qx6
  go_wp2
  refine wp_reads 6 0 w7.heap.size (by kernel_rfl) (by kernel_rfl) (by rfl) (by kernel_rfl) (fun _ _ d _ _ h => by cases d <;> exact h) ?_
  simp only [List.take_succ_cons, List.take_zero]
  repeat ((first
    | refine take_eql_t (by rfl) (by rfl) (by rfl) (by rfl) eqok2 gd2 (Nm.len (n := 12) (by with_reducible first | exact Nm.fe _ | exact Nm.F2 _ | assumption | exact nm_one | exact nm_Z6 | (refine Nm.seg (m := 12) ?_ (by decide); assumption) | exact Nm.seg (m := 12) (Nm.F2 _) (by decide) | exact Nm.app2 (.fe _) (.fe _) | exact nm_two | exact nm_rep | exact nm_Z12 | exact Nm.app2 nm_one nm_one | exact Nm.app2 nm_one nm_rep | exact Nm.app2 nm_rep nm_one | exact Nm.app2 nm_two nm_rep | (refine Nm.app2 ?_ nm_Z6; assumption) | exact Nm.app2 (.fe _) nm_Z6 | exact ⟨rfl, words_of _ (by decide)⟩ | fail)) (Nm.len (n := 12) (by with_reducible first | exact Nm.fe _ | exact Nm.F2 _ | assumption | exact nm_one | exact nm_Z6 | (refine Nm.seg (m := 12) ?_ (by decide); assumption) | exact Nm.seg (m := 12) (Nm.F2 _) (by decide) | exact Nm.app2 (.fe _) (.fe _) | exact nm_two | exact nm_rep | exact nm_Z12 | exact Nm.app2 nm_one nm_one | exact Nm.app2 nm_one nm_rep | exact Nm.app2 nm_rep nm_one | exact Nm.app2 nm_two nm_rep | (refine Nm.app2 ?_ nm_Z6; assumption) | exact Nm.app2 (.fe _) nm_Z6 | exact ⟨rfl, words_of _ (by decide)⟩ | fail)) (by with_reducible first | rfl | exact hx0.out | exact hi0.out | exact hm0.out) ?_
    | refine take_neq_t (by rfl) (by rfl) (by rfl) (by rfl) eqok2 gd2 (Nm.len (n := 12) (by with_reducible first | exact Nm.fe _ | exact Nm.F2 _ | assumption | exact nm_one | exact nm_Z6 | (refine Nm.seg (m := 12) ?_ (by decide); assumption) | exact Nm.seg (m := 12) (Nm.F2 _) (by decide) | exact Nm.app2 (.fe _) (.fe _) | exact nm_two | exact nm_rep | exact nm_Z12 | exact Nm.app2 nm_one nm_one | exact Nm.app2 nm_one nm_rep | exact Nm.app2 nm_rep nm_one | exact Nm.app2 nm_two nm_rep | (refine Nm.app2 ?_ nm_Z6; assumption) | exact Nm.app2 (.fe _) nm_Z6 | exact ⟨rfl, words_of _ (by decide)⟩ | fail)) (Nm.len (n := 12) (by with_reducible first | exact Nm.fe _ | exact Nm.F2 _ | assumption | exact nm_one | exact nm_Z6 | (refine Nm.seg (m := 12) ?_ (by decide); assumption) | exact Nm.seg (m := 12) (Nm.F2 _) (by decide) | exact Nm.app2 (.fe _) (.fe _) | exact nm_two | exact nm_rep | exact nm_Z12 | exact Nm.app2 nm_one nm_one | exact Nm.app2 nm_one nm_rep | exact Nm.app2 nm_rep nm_one | exact Nm.app2 nm_two nm_rep | (refine Nm.app2 ?_ nm_Z6; assumption) | exact Nm.app2 (.fe _) nm_Z6 | exact ⟨rfl, words_of _ (by decide)⟩ | fail)) (by with_reducible first | rfl | exact hx0.out | exact hi0.out | exact hm0.out) ?_
    | refine take_eql_f (by rfl) (by rfl) (by rfl) (by rfl) eqok2 gd2 (Nm.len (n := 12) (by with_reducible first | exact Nm.fe _ | exact Nm.F2 _ | assumption | exact nm_one | exact nm_Z6 | (refine Nm.seg (m := 12) ?_ (by decide); assumption) | exact Nm.seg (m := 12) (Nm.F2 _) (by decide) | exact Nm.app2 (.fe _) (.fe _) | exact nm_two | exact nm_rep | exact nm_Z12 | exact Nm.app2 nm_one nm_one | exact Nm.app2 nm_one nm_rep | exact Nm.app2 nm_rep nm_one | exact Nm.app2 nm_two nm_rep | (refine Nm.app2 ?_ nm_Z6; assumption) | exact Nm.app2 (.fe _) nm_Z6 | exact ⟨rfl, words_of _ (by decide)⟩ | fail)) (Nm.len (n := 12) (by with_reducible first | exact Nm.fe _ | exact Nm.F2 _ | assumption | exact nm_one | exact nm_Z6 | (refine Nm.seg (m := 12) ?_ (by decide); assumption) | exact Nm.seg (m := 12) (Nm.F2 _) (by decide) | exact Nm.app2 (.fe _) (.fe _) | exact nm_two | exact nm_rep | exact nm_Z12 | exact Nm.app2 nm_one nm_one | exact Nm.app2 nm_one nm_rep | exact Nm.app2 nm_rep nm_one | exact Nm.app2 nm_two nm_rep | (refine Nm.app2 ?_ nm_Z6; assumption) | exact Nm.app2 (.fe _) nm_Z6 | exact ⟨rfl, words_of _ (by decide)⟩ | fail)) (by with_reducible first | assumption) ?_
    | refine take_neq_f (by rfl) (by rfl) (by rfl) (by rfl) eqok2 gd2 (Nm.len (n := 12) (by with_reducible first | exact Nm.fe _ | exact Nm.F2 _ | assumption | exact nm_one | exact nm_Z6 | (refine Nm.seg (m := 12) ?_ (by decide); assumption) | exact Nm.seg (m := 12) (Nm.F2 _) (by decide) | exact Nm.app2 (.fe _) (.fe _) | exact nm_two | exact nm_rep | exact nm_Z12 | exact Nm.app2 nm_one nm_one | exact Nm.app2 nm_one nm_rep | exact Nm.app2 nm_rep nm_one | exact Nm.app2 nm_two nm_rep | (refine Nm.app2 ?_ nm_Z6; assumption) | exact Nm.app2 (.fe _) nm_Z6 | exact ⟨rfl, words_of _ (by decide)⟩ | fail)) (Nm.len (n := 12) (by with_reducible first | exact Nm.fe _ | exact Nm.F2 _ | assumption | exact nm_one | exact nm_Z6 | (refine Nm.seg (m := 12) ?_ (by decide); assumption) | exact Nm.seg (m := 12) (Nm.F2 _) (by decide) | exact Nm.app2 (.fe _) (.fe _) | exact nm_two | exact nm_rep | exact nm_Z12 | exact Nm.app2 nm_one nm_one | exact Nm.app2 nm_one nm_rep | exact Nm.app2 nm_rep nm_one | exact Nm.app2 nm_two nm_rep | (refine Nm.app2 ?_ nm_Z6; assumption) | exact Nm.app2 (.fe _) nm_Z6 | exact ⟨rfl, words_of _ (by decide)⟩ | fail)) (by with_reducible first | assumption) ?_
    | refine take_load (by rfl) 24 (by rfl) (g := S) (n := 6) (by rfl) (t := 26) (xs := a) (fun w hw => hw.has qa7 (Nat.ne_of_lt qa7.lt)) Tryd.underlying24 rfl (by kernel_rfl) (by rw [ha.len]; decide) ?_
    | refine take_loadw (by rfl) 26 (by rfl) (g := S) (n := 12) (by rfl) (t := 26) (xs := a) (fun w hw => hw.has qa7 (Nat.ne_of_lt qa7.lt)) Tryd.underlying26 rfl (by kernel_rfl) ha.len ?_
    | refine take_load (by rfl) 24 (by rfl) (g := S + 1) (n := 6) (by rfl) (t := 26) (xs := b) (fun w hw => hw.has qb7 (Nat.ne_of_lt qb7.lt)) Tryd.underlying24 rfl (by kernel_rfl) (by rw [hb.len]; decide) ?_
    | refine take_loadw (by rfl) 26 (by rfl) (g := S + 1) (n := 12) (by rfl) (t := 26) (xs := b) (fun w hw => hw.has qb7 (Nat.ne_of_lt qb7.lt)) Tryd.underlying26 rfl (by kernel_rfl) hb.len ?_
    | refine take_load (by rfl) 24 (by rfl) (g := w1.heap.size) (n := 6) (by rfl) (t := 26) (xs := [0, 0, 0, 0, 0, 0, 0, 0, 0, 0, 0, 0]) (fun w hw => hw.has qz7 (Nat.ne_of_lt qz7.lt)) Tryd.underlying24 rfl (by kernel_rfl) (by rw [(show List.length _ = 12 from rfl)]; decide) ?_
    | refine take_loadw (by rfl) 26 (by rfl) (g := w1.heap.size) (n := 12) (by rfl) (t := 26) (xs := [0, 0, 0, 0, 0, 0, 0, 0, 0, 0, 0, 0]) (fun w hw => hw.has qz7 (Nat.ne_of_lt qz7.lt)) Tryd.underlying26 rfl (by kernel_rfl) (show List.length _ = 12 from rfl) ?_
    | refine take_load (by rfl) 24 (by rfl) (g := w3.heap.size) (n := 6) (by rfl) (t := 26) (xs := (F2 (gi (v2 a)))) (fun w hw => hw.has qi7 (Nat.ne_of_lt qi7.lt)) Tryd.underlying24 rfl (by kernel_rfl) (by rw [(Nm.F2 _).len]; decide) ?_
    | refine take_loadw (by rfl) 26 (by rfl) (g := w3.heap.size) (n := 12) (by rfl) (t := 26) (xs := (F2 (gi (v2 a)))) (fun w hw => hw.has qi7 (Nat.ne_of_lt qi7.lt)) Tryd.underlying26 rfl (by kernel_rfl) (Nm.F2 _).len ?_
    | refine take_load (by rfl) 24 (by rfl) (g := w5.heap.size) (n := 6) (by rfl) (t := 26) (xs := (F2 (v2 a))) (fun w hw => hw.has qx7 (Nat.ne_of_lt qx7.lt)) Tryd.underlying24 rfl (by kernel_rfl) (by rw [(Nm.F2 _).len]; decide) ?_
    | refine take_loadw (by rfl) 26 (by rfl) (g := w5.heap.size) (n := 12) (by rfl) (t := 26) (xs := (F2 (v2 a))) (fun w hw => hw.has qx7 (Nat.ne_of_lt qx7.lt)) Tryd.underlying26 rfl (by kernel_rfl) (Nm.F2 _).len ?_
    | refine wpTake_cons (.inl ⟨by rfl, fun w hw => (by unfold Oper.quietAt; go_simp; (first | with_reducible refine lRed2 _ ?_ _ (HG.out _ (hb7.trans (hw.below (HSS.out _ hb7) (HSS.out _ hb7)))) | with_reducible refine lAdd2 _ ?_ _ ?_ _ (HG.out _ (hb7.trans (hw.below (HSS.out _ hb7) (HSS.out _ hb7)))) | with_reducible refine lSub2 _ ?_ _ ?_ _ (HG.out _ (hb7.trans (hw.below (HSS.out _ hb7) (HSS.out _ hb7)))) | with_reducible refine lNeg2 _ ?_ _ (HG.out _ (hb7.trans (hw.below (HSS.out _ hb7) (HSS.out _ hb7)))) | with_reducible refine lMul2 _ ?_ _ ?_ _ (HG.out _ (hb7.trans (hw.below (HSS.out _ hb7) (HSS.out _ hb7)))) | with_reducible refine lInv2 _ ?_ _ (HD.out _ (hb7.trans (hw.below (HSS.out _ hb7) (HSS.out _ hb7)))) | with_reducible refine lConj2 _ ?_ _ (HG.out _ (hb7.trans (hw.below (HSS.out _ hb7) (HSS.out _ hb7)))) | with_reducible refine lXi2 _ ?_ _ (HG.out _ (hb7.trans (hw.below (HSS.out _ hb7) (HSS.out _ hb7)))) | with_reducible refine lScale2 _ ?_ _ ?_ _ (HG.out _ (hb7.trans (hw.below (HSS.out _ hb7) (HSS.out _ hb7)))) | with_reducible refine refRed2 _ ?_ _ | with_reducible refine refAdd2 _ ?_ _ ?_ _ | with_reducible refine refSub2 _ ?_ _ ?_ _ | with_reducible refine refNeg2 _ ?_ _ | with_reducible refine refMul2 _ ?_ _ ?_ _ | with_reducible refine refInv2 _ ?_ _ | with_reducible refine refConj2 _ ?_ _ | with_reducible refine refXi2 _ ?_ _ | with_reducible refine refScale2 _ ?_ _ ?_ _ | with_reducible refine one_c _) <;> (with_reducible first | exact Nm.fe _ | exact Nm.F2 _ | assumption | exact nm_one | exact nm_Z6 | (refine Nm.seg (m := 12) ?_ (by decide); assumption) | exact Nm.seg (m := 12) (Nm.F2 _) (by decide) | exact Nm.app2 (.fe _) (.fe _) | exact nm_two | exact nm_rep | exact nm_Z12 | exact Nm.app2 nm_one nm_one | exact Nm.app2 nm_one nm_rep | exact Nm.app2 nm_rep nm_one | exact Nm.app2 nm_two nm_rep | (refine Nm.app2 ?_ nm_Z6; assumption) | exact Nm.app2 (.fe _) nm_Z6 | exact ⟨rfl, words_of _ (by decide)⟩ | fail))⟩) ?_
    | refine take_skip (by rfl) ?_
    | refine wpTake_cons (Steady.of_yields (Or.inl ⟨by rfl, fun w => (by first | (go_simp; done) | (go_simp; with_reducible rfl))⟩)) ?_); simp only [List.getElem_toArray, List.getElem_cons_zero, List.getElem_cons_succ, Act.put, List.setIfInBounds_toArray, List.set_cons_zero, List.set_cons_succ])
  refine wpTake_nil ?_
  refine wpAnyU_end (by kernel_rfl) (fun w8 hq0 => ?_)
  have hq := (drawn_below w7).trans hq0
  have qa8 := qa7.keep hq
  have qb8 := qb7.keep hq
  have qz8 := qz7.keep hq
  have qi8 := qi7.keep hq
  have qx8 := qx7.keep hq
  have hb8 := hb7.trans (hq.mono (HSS.out _ hb7))
  clear hq0 hq hb7 qa7 qb7 qz7 qi7 qx7
  go_wp2
  refine wp_reads 18 0 w8.heap.size (by kernel_rfl) (by kernel_rfl) (by rfl) (by kernel_rfl) (fun _ _ d _ _ h => by cases d <;> exact h) ?_
  simp only [List.take_succ_cons, List.take_zero]
  repeat ((first
    | refine take_eql_t (by rfl) (by rfl) (by rfl) (by rfl) eqok2 gd2 (Nm.len (n := 12) (by with_reducible first | exact Nm.fe _ | exact Nm.F2 _ | assumption | exact nm_one | exact nm_Z6 | (refine Nm.seg (m := 12) ?_ (by decide); assumption) | exact Nm.seg (m := 12) (Nm.F2 _) (by decide) | exact Nm.app2 (.fe _) (.fe _) | exact nm_two | exact nm_rep | exact nm_Z12 | exact Nm.app2 nm_one nm_one | exact Nm.app2 nm_one nm_rep | exact Nm.app2 nm_rep nm_one | exact Nm.app2 nm_two nm_rep | (refine Nm.app2 ?_ nm_Z6; assumption) | exact Nm.app2 (.fe _) nm_Z6 | exact ⟨rfl, words_of _ (by decide)⟩ | fail)) (Nm.len (n := 12) (by with_reducible first | exact Nm.fe _ | exact Nm.F2 _ | assumption | exact nm_one | exact nm_Z6 | (refine Nm.seg (m := 12) ?_ (by decide); assumption) | exact Nm.seg (m := 12) (Nm.F2 _) (by decide) | exact Nm.app2 (.fe _) (.fe _) | exact nm_two | exact nm_rep | exact nm_Z12 | exact Nm.app2 nm_one nm_one | exact Nm.app2 nm_one nm_rep | exact Nm.app2 nm_rep nm_one | exact Nm.app2 nm_two nm_rep | (refine Nm.app2 ?_ nm_Z6; assumption) | exact Nm.app2 (.fe _) nm_Z6 | exact ⟨rfl, words_of _ (by decide)⟩ | fail)) (by with_reducible first | rfl | exact hx0.out | exact hi0.out | exact hm0.out) ?_
    | refine take_neq_t (by rfl) (by rfl) (by rfl) (by rfl) eqok2 gd2 (Nm.len (n := 12) (by with_reducible first | exact Nm.fe _ | exact Nm.F2 _ | assumption | exact nm_one | exact nm_Z6 | (refine Nm.seg (m := 12) ?_ (by decide); assumption) | exact Nm.seg (m := 12) (Nm.F2 _) (by decide) | exact Nm.app2 (.fe _) (.fe _) | exact nm_two | exact nm_rep | exact nm_Z12 | exact Nm.app2 nm_one nm_one | exact Nm.app2 nm_one nm_rep | exact Nm.app2 nm_rep nm_one | exact Nm.app2 nm_two nm_rep | (refine Nm.app2 ?_ nm_Z6; assumption) | exact Nm.app2 (.fe _) nm_Z6 | exact ⟨rfl, words_of _ (by decide)⟩ | fail)) (Nm.len (n := 12) (by with_reducible first | exact Nm.fe _ | exact Nm.F2 _ | assumption | exact nm_one | exact nm_Z6 | (refine Nm.seg (m := 12) ?_ (by decide); assumption) | exact Nm.seg (m := 12) (Nm.F2 _) (by decide) | exact Nm.app2 (.fe _) (.fe _) | exact nm_two | exact nm_rep | exact nm_Z12 | exact Nm.app2 nm_one nm_one | exact Nm.app2 nm_one nm_rep | exact Nm.app2 nm_rep nm_one | exact Nm.app2 nm_two nm_rep | (refine Nm.app2 ?_ nm_Z6; assumption) | exact Nm.app2 (.fe _) nm_Z6 | exact ⟨rfl, words_of _ (by decide)⟩ | fail)) (by with_reducible first | rfl | exact hx0.out | exact hi0.out | exact hm0.out) ?_
    | refine take_eql_f (by rfl) (by rfl) (by rfl) (by rfl) eqok2 gd2 (Nm.len (n := 12) (by with_reducible first | exact Nm.fe _ | exact Nm.F2 _ | assumption | exact nm_one | exact nm_Z6 | (refine Nm.seg (m := 12) ?_ (by decide); assumption) | exact Nm.seg (m := 12) (Nm.F2 _) (by decide) | exact Nm.app2 (.fe _) (.fe _) | exact nm_two | exact nm_rep | exact nm_Z12 | exact Nm.app2 nm_one nm_one | exact Nm.app2 nm_one nm_rep | exact Nm.app2 nm_rep nm_one | exact Nm.app2 nm_two nm_rep | (refine Nm.app2 ?_ nm_Z6; assumption) | exact Nm.app2 (.fe _) nm_Z6 | exact ⟨rfl, words_of _ (by decide)⟩ | fail)) (Nm.len (n := 12) (by with_reducible first | exact Nm.fe _ | exact Nm.F2 _ | assumption | exact nm_one | exact nm_Z6 | (refine Nm.seg (m := 12) ?_ (by decide); assumption) | exact Nm.seg (m := 12) (Nm.F2 _) (by decide) | exact Nm.app2 (.fe _) (.fe _) | exact nm_two | exact nm_rep | exact nm_Z12 | exact Nm.app2 nm_one nm_one | exact Nm.app2 nm_one nm_rep | exact Nm.app2 nm_rep nm_one | exact Nm.app2 nm_two nm_rep | (refine Nm.app2 ?_ nm_Z6; assumption) | exact Nm.app2 (.fe _) nm_Z6 | exact ⟨rfl, words_of _ (by decide)⟩ | fail)) (by with_reducible first | assumption) ?_
    | refine take_neq_f (by rfl) (by rfl) (by rfl) (by rfl) eqok2 gd2 (Nm.len (n := 12) (by with_reducible first | exact Nm.fe _ | exact Nm.F2 _ | assumption | exact nm_one | exact nm_Z6 | (refine Nm.seg (m := 12) ?_ (by decide); assumption) | exact Nm.seg (m := 12) (Nm.F2 _) (by decide) | exact Nm.app2 (.fe _) (.fe _) | exact nm_two | exact nm_rep | exact nm_Z12 | exact Nm.app2 nm_one nm_one | exact Nm.app2 nm_one nm_rep | exact Nm.app2 nm_rep nm_one | exact Nm.app2 nm_two nm_rep | (refine Nm.app2 ?_ nm_Z6; assumption) | exact Nm.app2 (.fe _) nm_Z6 | exact ⟨rfl, words_of _ (by decide)⟩ | fail)) (Nm.len (n := 12) (by with_reducible first | exact Nm.fe _ | exact Nm.F2 _ | assumption | exact nm_one | exact nm_Z6 | (refine Nm.seg (m := 12) ?_ (by decide); assumption) | exact Nm.seg (m := 12) (Nm.F2 _) (by decide) | exact Nm.app2 (.fe _) (.fe _) | exact nm_two | exact nm_rep | exact nm_Z12 | exact Nm.app2 nm_one nm_one | exact Nm.app2 nm_one nm_rep | exact Nm.app2 nm_rep nm_one | exact Nm.app2 nm_two nm_rep | (refine Nm.app2 ?_ nm_Z6; assumption) | exact Nm.app2 (.fe _) nm_Z6 | exact ⟨rfl, words_of _ (by decide)⟩ | fail)) (by with_reducible first | assumption) ?_
    | refine take_load (by rfl) 24 (by rfl) (g := S) (n := 6) (by rfl) (t := 26) (xs := a) (fun w hw => hw.has qa8 (Nat.ne_of_lt qa8.lt)) Tryd.underlying24 rfl (by kernel_rfl) (by rw [ha.len]; decide) ?_
    | refine take_loadw (by rfl) 26 (by rfl) (g := S) (n := 12) (by rfl) (t := 26) (xs := a) (fun w hw => hw.has qa8 (Nat.ne_of_lt qa8.lt)) Tryd.underlying26 rfl (by kernel_rfl) ha.len ?_
    | refine take_load (by rfl) 24 (by rfl) (g := S + 1) (n := 6) (by rfl) (t := 26) (xs := b) (fun w hw => hw.has qb8 (Nat.ne_of_lt qb8.lt)) Tryd.underlying24 rfl (by kernel_rfl) (by rw [hb.len]; decide) ?_
    | refine take_loadw (by rfl) 26 (by rfl) (g := S + 1) (n := 12) (by rfl) (t := 26) (xs := b) (fun w hw => hw.has qb8 (Nat.ne_of_lt qb8.lt)) Tryd.underlying26 rfl (by kernel_rfl) hb.len ?_
    | refine take_load (by rfl) 24 (by rfl) (g := w1.heap.size) (n := 6) (by rfl) (t := 26) (xs := [0, 0, 0, 0, 0, 0, 0, 0, 0, 0, 0, 0]) (fun w hw => hw.has qz8 (Nat.ne_of_lt qz8.lt)) Tryd.underlying24 rfl (by kernel_rfl) (by rw [(show List.length _ = 12 from rfl)]; decide) ?_
    | refine take_loadw (by rfl) 26 (by rfl) (g := w1.heap.size) (n := 12) (by rfl) (t := 26) (xs := [0, 0, 0, 0, 0, 0, 0, 0, 0, 0, 0, 0]) (fun w hw => hw.has qz8 (Nat.ne_of_lt qz8.lt)) Tryd.underlying26 rfl (by kernel_rfl) (show List.length _ = 12 from rfl) ?_
    | refine take_load (by rfl) 24 (by rfl) (g := w3.heap.size) (n := 6) (by rfl) (t := 26) (xs := (F2 (gi (v2 a)))) (fun w hw => hw.has qi8 (Nat.ne_of_lt qi8.lt)) Tryd.underlying24 rfl (by kernel_rfl) (by rw [(Nm.F2 _).len]; decide) ?_
    | refine take_loadw (by rfl) 26 (by rfl) (g := w3.heap.size) (n := 12) (by rfl) (t := 26) (xs := (F2 (gi (v2 a)))) (fun w hw => hw.has qi8 (Nat.ne_of_lt qi8.lt)) Tryd.underlying26 rfl (by kernel_rfl) (Nm.F2 _).len ?_
    | refine take_load (by rfl) 24 (by rfl) (g := w5.heap.size) (n := 6) (by rfl) (t := 26) (xs := (F2 (v2 a))) (fun w hw => hw.has qx8 (Nat.ne_of_lt qx8.lt)) Tryd.underlying24 rfl (by kernel_rfl) (by rw [(Nm.F2 _).len]; decide) ?_
    | refine take_loadw (by rfl) 26 (by rfl) (g := w5.heap.size) (n := 12) (by rfl) (t := 26) (xs := (F2 (v2 a))) (fun w hw => hw.has qx8 (Nat.ne_of_lt qx8.lt)) Tryd.underlying26 rfl (by kernel_rfl) (Nm.F2 _).len ?_
    | refine wpTake_cons (.inl ⟨by rfl, fun w hw => (by unfold Oper.quietAt; go_simp; (first | with_reducible refine lRed2 _ ?_ _ (HG.out _ (hb8.trans (hw.below (HSS.out _ hb8) (HSS.out _ hb8)))) | with_reducible refine lAdd2 _ ?_ _ ?_ _ (HG.out _ (hb8.trans (hw.below (HSS.out _ hb8) (HSS.out _ hb8)))) | with_reducible refine lSub2 _ ?_ _ ?_ _ (HG.out _ (hb8.trans (hw.below (HSS.out _ hb8) (HSS.out _ hb8)))) | with_reducible refine lNeg2 _ ?_ _ (HG.out _ (hb8.trans (hw.below (HSS.out _ hb8) (HSS.out _ hb8)))) | with_reducible refine lMul2 _ ?_ _ ?_ _ (HG.out _ (hb8.trans (hw.below (HSS.out _ hb8) (HSS.out _ hb8)))) | with_reducible refine lInv2 _ ?_ _ (HD.out _ (hb8.trans (hw.below (HSS.out _ hb8) (HSS.out _ hb8)))) | with_reducible refine lConj2 _ ?_ _ (HG.out _ (hb8.trans (hw.below (HSS.out _ hb8) (HSS.out _ hb8)))) | with_reducible refine lXi2 _ ?_ _ (HG.out _ (hb8.trans (hw.below (HSS.out _ hb8) (HSS.out _ hb8)))) | with_reducible refine lScale2 _ ?_ _ ?_ _ (HG.out _ (hb8.trans (hw.below (HSS.out _ hb8) (HSS.out _ hb8)))) | with_reducible refine refRed2 _ ?_ _ | with_reducible refine refAdd2 _ ?_ _ ?_ _ | with_reducible refine refSub2 _ ?_ _ ?_ _ | with_reducible refine refNeg2 _ ?_ _ | with_reducible refine refMul2 _ ?_ _ ?_ _ | with_reducible refine refInv2 _ ?_ _ | with_reducible refine refConj2 _ ?_ _ | with_reducible refine refXi2 _ ?_ _ | with_reducible refine refScale2 _ ?_ _ ?_ _ | with_reducible refine one_c _) <;> (with_reducible first | exact Nm.fe _ | exact Nm.F2 _ | assumption | exact nm_one | exact nm_Z6 | (refine Nm.seg (m := 12) ?_ (by decide); assumption) | exact Nm.seg (m := 12) (Nm.F2 _) (by decide) | exact Nm.app2 (.fe _) (.fe _) | exact nm_two | exact nm_rep | exact nm_Z12 | exact Nm.app2 nm_one nm_one | exact Nm.app2 nm_one nm_rep | exact Nm.app2 nm_rep nm_one | exact Nm.app2 nm_two nm_rep | (refine Nm.app2 ?_ nm_Z6; assumption) | exact Nm.app2 (.fe _) nm_Z6 | exact ⟨rfl, words_of _ (by decide)⟩ | fail))⟩) ?_
    | refine take_skip (by rfl) ?_
    | refine wpTake_cons (Steady.of_yields (Or.inl ⟨by rfl, fun w => (by first | (go_simp; done) | (go_simp; with_reducible rfl))⟩)) ?_); simp only [List.getElem_toArray, List.getElem_cons_zero, List.getElem_cons_succ, Act.put, List.setIfInBounds_toArray, List.set_cons_zero, List.set_cons_succ])
  refine wpTake_nil ?_
  refine wpAnyU_end (by kernel_rfl) (fun w9 hq0 => ?_)
  have hq := (drawn_below w8).trans hq0
  have qa9 := qa8.keep hq
  have qb9 := qb8.keep hq
  have qz9 := qz8.keep hq
  have qi9 := qi8.keep hq
  have qx9 := qx8.keep hq
  have hb9 := hb8.trans (hq.mono (HSS.out _ hb8))
  clear hq0 hq hb8 qa8 qb8 qz8 qi8 qx8
  go_wp2
  go_ret
  exact ⟨rfl, hb9⟩

set_option maxRecDepth 100000 in
set_option maxHeartbeats 4000000 in
theorem inverse_b0 (a : List Int) (ha : Nm 12 a) (b : List Int) (hb : Nm 12 b) (w : World) (hG : GlobD w) (hz : ¬ Z2 (v2 a)) (hy : Z2 (v2 b)) : Calls Tryd.prog 7 #[.agg (vals .u64 a), .agg (vals .u64 b)] w fun e w' => e = .returned (.bool true) ∧ Below w.heap.size w w' := by
  obtain ⟨S, hS⟩ : ∃ S, w.heap.size = S := ⟨_, rfl⟩
  have qa0 : Has ((w.alloc (.cells (vals .u64 a) 26)).alloc (.cells (vals .u64 b) 26)) (S) 26 (vals .u64 a) := ((Has.new' _ hS.symm _ _).alloc _)
  have qb0 : Has ((w.alloc (.cells (vals .u64 a) 26)).alloc (.cells (vals .u64 b) 26)) (S + 1) 26 (vals .u64 b) := (Has.new' _ (by simp only [World.size_alloc, hS]) _ _)
  have hb0 : Below S w ((w.alloc (.cells (vals .u64 a) 26)).alloc (.cells (vals .u64 b) 26)) := by rw [← hS]; exact (((Below.refl _ _).alloc (Nat.le_refl _) _).alloc (by simp <;> omega) _)
  have hsz0 : ((w.alloc (.cells (vals .u64 a) 26)).alloc (.cells (vals .u64 b) 26)).heap.size = S + 2 := by simp only [World.size_alloc, hS]
  have HSS : Keep (∀ x : World, Below S w x → S ≤ x.heap.size) := ⟨fun x hb => Nat.le_trans (by omega) hb.size⟩
  have HD : Keep (∀ x : World, Below S w x → GlobD x) := ⟨fun x hb => hG.keep (by rw [hS]; exact hb)⟩
  have HG : Keep (∀ x : World, Below S w x → Glob x) := ⟨fun x hb => (HD.out x hb).toGlob⟩
  clear hG
  have hx1 : Keep (F2 (v2 a) ≠ [0, 0, 0, 0, 0, 0, 0, 0, 0, 0, 0, 0]) := ⟨fun h => hz ((F2_zero _).1 h)⟩
  have hm1 : Keep (F2 (gm (v2 a) (v2 (F2 (gi (v2 a))))) = [1, 0, 0, 0, 0, 0, 0, 0, 0, 0, 0, 0]) := ⟨by rw [← F2_O]; exact F2_eq ((gm_congr E2.rfl (v2_F2 _)).trans (gm_gi hz))⟩
  have hii : Keep (F2 (gi (v2 (F2 (gi (v2 a))))) = F2 (v2 a)) := ⟨F2_eq ((gi_congr (v2_F2 _)).trans (gi_gi hz))⟩
  have hm0 : Keep (F2 (gm (v2 a) (v2 b)) = [0, 0, 0, 0, 0, 0, 0, 0, 0, 0, 0, 0]) := ⟨(F2_zero _).2 (by rw [gm_comm]; exact gm_zl hy)⟩
  have hb0_ : Keep (F2 (v2 b) = [0, 0, 0, 0, 0, 0, 0, 0, 0, 0, 0, 0]) := ⟨(F2_zero _).2 hy⟩
  clear hz hy
  rw [hS]
  go_enter Tryd.func7, Tryd.ntmps7
  go_wp2_with (first
    | (refine store_abs2 (by rfl) 26 (.tmp 8) (.tmp 16) (by rfl) (by rfl) (w5.heap.size) (vals .u64 (F2 (v2 a))) (by rfl) (by rfl) 26 (vals .u64 Z12) (Has.new' _ rfl _ _) (by rw [vals_size, (Nm.F2 _).len]; kernel_rfl) (by rw [vals_size, vals_size, (Nm.F2 _).len]; rfl) vals_one ?_
       intro w6 qx6 hkeep hbg
       have hbe := ((Below.refl w5.heap.size w5).alloc (Nat.le_refl _) (.cells (vals .u64 Z12) 26)).trans hbg
       have Nax := qa5.lt
       have qa6 := qa5.keep hbe
       have Nbx := qb5.lt
       have qb6 := qb5.keep hbe
       have Nzx := qz5.lt
       have qz6 := qz5.keep hbe
       have Nix := qi5.lt
       have qi6 := qi5.keep hbe
       have Mx : S ≤ w5.heap.size := HSS.out _ hb5
       have hb6 := hb5.trans (hbe.mono Mx)
       clear hkeep hbg hbe hb5 qa5 qb5 qz5 qi5)
    | (have hq0 := hb4
       clear hq0
       go_at_call 12
       refine (lRed2 a ha _ (HG.out _ hb4)).mono ?_
       rintro e w5 ⟨rfl, hq⟩
       have qa5 := qa4.keep hq
       have qb5 := qb4.keep hq
       have qz5 := qz4.keep hq
       have qi5 := qi4.keep hq
       have hb5 := hb4.trans (hq.mono (HSS.out _ hb4))
       clear hq hb4 qa4 qb4 qz4 qi4)
    | (refine wpList_load_row rfl 26 (.tmp 2) rfl (S) rfl _ _ _ _ qa4.eq Tryd.underlying26 rfl (by rw [vals_size, ha.len]; kernel_rfl) ?_)
    | (refine store_abs2 (by rfl) 26 (.tmp 7) (.tmp 14) (by rfl) (by rfl) (w3.heap.size) (vals .u64 (F2 (gi (v2 a)))) (by rfl) (by rfl) 26 (vals .u64 Z12) (Has.new' _ rfl _ _) (by rw [vals_size, (Nm.F2 _).len]; kernel_rfl) (by rw [vals_size, vals_size, (Nm.F2 _).len]; rfl) vals_one ?_
       intro w4 qi4 hkeep hbg
       have hbe := ((Below.refl w3.heap.size w3).alloc (Nat.le_refl _) (.cells (vals .u64 Z12) 26)).trans hbg
       have Nai := qa3.lt
       have qa4 := qa3.keep hbe
       have Nbi := qb3.lt
       have qb4 := qb3.keep hbe
       have Nzi := qz3.lt
       have qz4 := qz3.keep hbe
       have Mi : S ≤ w3.heap.size := HSS.out _ hb3
       have hb4 := hb3.trans (hbe.mono Mi)
       clear hkeep hbg hbe hb3 qa3 qb3 qz3)
    | (have hq0 := hb2
       clear hq0
       go_at_call 26
       refine (lInv2 a ha _ (HD.out _ hb2)).mono ?_
       rintro e w3 ⟨rfl, hq⟩
       have qa3 := qa2.keep hq
       have qb3 := qb2.keep hq
       have qz3 := qz2.keep hq
       have hb3 := hb2.trans (hq.mono (HSS.out _ hb2))
       clear hq hb2 qa2 qb2 qz2)
    | (refine wpList_load_row rfl 26 (.tmp 2) rfl (S) rfl _ _ _ _ qa2.eq Tryd.underlying26 rfl (by rw [vals_size, ha.len]; kernel_rfl) ?_)
    | (refine store_abs2 (by rfl) 26 (.tmp 6) (.tmp 12) (by rfl) (by rfl) (w1.heap.size) (vals .u64 [0, 0, 0, 0, 0, 0, 0, 0, 0, 0, 0, 0]) (by rfl) (by rfl) 26 (vals .u64 Z12) (Has.new' _ rfl _ _) (by rw [vals_size, (show List.length _ = 12 from rfl)]; kernel_rfl) (by rw [vals_size, vals_size, (show List.length _ = 12 from rfl)]; rfl) vals_one ?_
       intro w2 qz2 hkeep hbg
       have hbe := ((Below.refl w1.heap.size w1).alloc (Nat.le_refl _) (.cells (vals .u64 Z12) 26)).trans hbg
       have Naz := qa1.lt
       have qa2 := qa1.keep hbe
       have Nbz := qb1.lt
       have qb2 := qb1.keep hbe
       have Mz : S ≤ w1.heap.size := HSS.out _ hb1
       have hb2 := hb1.trans (hbe.mono Mz)
       clear hkeep hbg hbe hb1 qa1 qb1)
    | (refine wpList_buildTo (by rfl) 26 #[] (by rfl) (some 12) (by rfl) (vals .u64 [0, 0, 0, 0, 0, 0, 0, 0, 0, 0, 0, 0]) (by kernel_rfl) ?_)
    | (have hq0 := hb0
       clear hq0
       go_at_call 11
       refine (awake_c _ (HD.out _ hb0)).mono ?_
       rintro e w1 ⟨rfl, hq⟩
       have qa1 := qa0.keep hq
       have qb1 := qb0.keep hq
       have hb1 := hb0.trans (hq.mono (HSS.out _ hb0))
       clear hq hb0 qa0 qb0))
  refine wp_reads 27 0 w6.heap.size (by kernel_rfl) (by kernel_rfl) (by rfl) (by kernel_rfl) (fun _ _ d _ _ h => by cases d <;> exact h) ?_
  simp only [List.take_succ_cons, List.take_zero]
  repeat ((first
    | refine take_eql_t (by rfl) (by rfl) (by rfl) (by rfl) eqok2 gd2 (Nm.len (n := 12) (by with_reducible first | exact Nm.fe _ | exact Nm.F2 _ | assumption | exact nm_one | exact nm_Z6 | (refine Nm.seg (m := 12) ?_ (by decide); assumption) | exact Nm.seg (m := 12) (Nm.F2 _) (by decide) | exact Nm.app2 (.fe _) (.fe _) | exact nm_two | exact nm_rep | exact nm_Z12 | exact Nm.app2 nm_one nm_one | exact Nm.app2 nm_one nm_rep | exact Nm.app2 nm_rep nm_one | exact Nm.app2 nm_two nm_rep | (refine Nm.app2 ?_ nm_Z6; assumption) | exact Nm.app2 (.fe _) nm_Z6 | exact ⟨rfl, words_of _ (by decide)⟩ | fail)) (Nm.len (n := 12) (by with_reducible first | exact Nm.fe _ | exact Nm.F2 _ | assumption | exact nm_one | exact nm_Z6 | (refine Nm.seg (m := 12) ?_ (by decide); assumption) | exact Nm.seg (m := 12) (Nm.F2 _) (by decide) | exact Nm.app2 (.fe _) (.fe _) | exact nm_two | exact nm_rep | exact nm_Z12 | exact Nm.app2 nm_one nm_one | exact Nm.app2 nm_one nm_rep | exact Nm.app2 nm_rep nm_one | exact Nm.app2 nm_two nm_rep | (refine Nm.app2 ?_ nm_Z6; assumption) | exact Nm.app2 (.fe _) nm_Z6 | exact ⟨rfl, words_of _ (by decide)⟩ | fail)) (by with_reducible first | rfl | exact hm1.out | exact hii.out | exact hm0.out | exact hb0_.out) ?_
    | refine take_neq_t (by rfl) (by rfl) (by rfl) (by rfl) eqok2 gd2 (Nm.len (n := 12) (by with_reducible first | exact Nm.fe _ | exact Nm.F2 _ | assumption | exact nm_one | exact nm_Z6 | (refine Nm.seg (m := 12) ?_ (by decide); assumption) | exact Nm.seg (m := 12) (Nm.F2 _) (by decide) | exact Nm.app2 (.fe _) (.fe _) | exact nm_two | exact nm_rep | exact nm_Z12 | exact Nm.app2 nm_one nm_one | exact Nm.app2 nm_one nm_rep | exact Nm.app2 nm_rep nm_one | exact Nm.app2 nm_two nm_rep | (refine Nm.app2 ?_ nm_Z6; assumption) | exact Nm.app2 (.fe _) nm_Z6 | exact ⟨rfl, words_of _ (by decide)⟩ | fail)) (Nm.len (n := 12) (by with_reducible first | exact Nm.fe _ | exact Nm.F2 _ | assumption | exact nm_one | exact nm_Z6 | (refine Nm.seg (m := 12) ?_ (by decide); assumption) | exact Nm.seg (m := 12) (Nm.F2 _) (by decide) | exact Nm.app2 (.fe _) (.fe _) | exact nm_two | exact nm_rep | exact nm_Z12 | exact Nm.app2 nm_one nm_one | exact Nm.app2 nm_one nm_rep | exact Nm.app2 nm_rep nm_one | exact Nm.app2 nm_two nm_rep | (refine Nm.app2 ?_ nm_Z6; assumption) | exact Nm.app2 (.fe _) nm_Z6 | exact ⟨rfl, words_of _ (by decide)⟩ | fail)) (by with_reducible first | rfl | exact hm1.out | exact hii.out | exact hm0.out | exact hb0_.out) ?_
    | refine take_eql_f (by rfl) (by rfl) (by rfl) (by rfl) eqok2 gd2 (Nm.len (n := 12) (by with_reducible first | exact Nm.fe _ | exact Nm.F2 _ | assumption | exact nm_one | exact nm_Z6 | (refine Nm.seg (m := 12) ?_ (by decide); assumption) | exact Nm.seg (m := 12) (Nm.F2 _) (by decide) | exact Nm.app2 (.fe _) (.fe _) | exact nm_two | exact nm_rep | exact nm_Z12 | exact Nm.app2 nm_one nm_one | exact Nm.app2 nm_one nm_rep | exact Nm.app2 nm_rep nm_one | exact Nm.app2 nm_two nm_rep | (refine Nm.app2 ?_ nm_Z6; assumption) | exact Nm.app2 (.fe _) nm_Z6 | exact ⟨rfl, words_of _ (by decide)⟩ | fail)) (Nm.len (n := 12) (by with_reducible first | exact Nm.fe _ | exact Nm.F2 _ | assumption | exact nm_one | exact nm_Z6 | (refine Nm.seg (m := 12) ?_ (by decide); assumption) | exact Nm.seg (m := 12) (Nm.F2 _) (by decide) | exact Nm.app2 (.fe _) (.fe _) | exact nm_two | exact nm_rep | exact nm_Z12 | exact Nm.app2 nm_one nm_one | exact Nm.app2 nm_one nm_rep | exact Nm.app2 nm_rep nm_one | exact Nm.app2 nm_two nm_rep | (refine Nm.app2 ?_ nm_Z6; assumption) | exact Nm.app2 (.fe _) nm_Z6 | exact ⟨rfl, words_of _ (by decide)⟩ | fail)) (by with_reducible first | assumption | exact hx1.out) ?_
    | refine take_neq_f (by rfl) (by rfl) (by rfl) (by rfl) eqok2 gd2 (Nm.len (n := 12) (by with_reducible first | exact Nm.fe _ | exact Nm.F2 _ | assumption | exact nm_one | exact nm_Z6 | (refine Nm.seg (m := 12) ?_ (by decide); assumption) | exact Nm.seg (m := 12) (Nm.F2 _) (by decide) | exact Nm.app2 (.fe _) (.fe _) | exact nm_two | exact nm_rep | exact nm_Z12 | exact Nm.app2 nm_one nm_one | exact Nm.app2 nm_one nm_rep | exact Nm.app2 nm_rep nm_one | exact Nm.app2 nm_two nm_rep | (refine Nm.app2 ?_ nm_Z6; assumption) | exact Nm.app2 (.fe _) nm_Z6 | exact ⟨rfl, words_of _ (by decide)⟩ | fail)) (Nm.len (n := 12) (by with_reducible first | exact Nm.fe _ | exact Nm.F2 _ | assumption | exact nm_one | exact nm_Z6 | (refine Nm.seg (m := 12) ?_ (by decide); assumption) | exact Nm.seg (m := 12) (Nm.F2 _) (by decide) | exact Nm.app2 (.fe _) (.fe _) | exact nm_two | exact nm_rep | exact nm_Z12 | exact Nm.app2 nm_one nm_one | exact Nm.app2 nm_one nm_rep | exact Nm.app2 nm_rep nm_one | exact Nm.app2 nm_two nm_rep | (refine Nm.app2 ?_ nm_Z6; assumption) | exact Nm.app2 (.fe _) nm_Z6 | exact ⟨rfl, words_of _ (by decide)⟩ | fail)) (by with_reducible first | assumption | exact hx1.out) ?_
    | refine take_load (by rfl) 24 (by rfl) (g := S) (n := 6) (by rfl) (t := 26) (xs := a) (fun w hw => hw.has qa6 (Nat.ne_of_lt qa6.lt)) Tryd.underlying24 rfl (by kernel_rfl) (by rw [ha.len]; decide) ?_
    | refine take_loadw (by rfl) 26 (by rfl) (g := S) (n := 12) (by rfl) (t := 26) (xs := a) (fun w hw => hw.has qa6 (Nat.ne_of_lt qa6.lt)) Tryd.underlying26 rfl (by kernel_rfl) ha.len ?_
    | refine take_load (by rfl) 24 (by rfl) (g := S + 1) (n := 6) (by rfl) (t := 26) (xs := b) (fun w hw => hw.has qb6 (Nat.ne_of_lt qb6.lt)) Tryd.underlying24 rfl (by kernel_rfl) (by rw [hb.len]; decide) ?_
    | refine take_loadw (by rfl) 26 (by rfl) (g := S + 1) (n := 12) (by rfl) (t := 26) (xs := b) (fun w hw => hw.has qb6 (Nat.ne_of_lt qb6.lt)) Tryd.underlying26 rfl (by kernel_rfl) hb.len ?_
    | refine take_load (by rfl) 24 (by rfl) (g := w1.heap.size) (n := 6) (by rfl) (t := 26) (xs := [0, 0, 0, 0, 0, 0, 0, 0, 0, 0, 0, 0]) (fun w hw => hw.has qz6 (Nat.ne_of_lt qz6.lt)) Tryd.underlying24 rfl (by kernel_rfl) (by rw [(show List.length _ = 12 from rfl)]; decide) ?_
    | refine take_loadw (by rfl) 26 (by rfl) (g := w1.heap.size) (n := 12) (by rfl) (t := 26) (xs := [0, 0, 0, 0, 0, 0, 0, 0, 0, 0, 0, 0]) (fun w hw => hw.has qz6 (Nat.ne_of_lt qz6.lt)) Tryd.underlying26 rfl (by kernel_rfl) (show List.length _ = 12 from rfl) ?_
    | refine take_load (by rfl) 24 (by rfl) (g := w3.heap.size) (n := 6) (by rfl) (t := 26) (xs := (F2 (gi (v2 a)))) (fun w hw => hw.has qi6 (Nat.ne_of_lt qi6.lt)) Tryd.underlying24 rfl (by kernel_rfl) (by rw [(Nm.F2 _).len]; decide) ?_
    | refine take_loadw (by rfl) 26 (by rfl) (g := w3.heap.size) (n := 12) (by rfl) (t := 26) (xs := (F2 (gi (v2 a)))) (fun w hw => hw.has qi6 (Nat.ne_of_lt qi6.lt)) Tryd.underlying26 rfl (by kernel_rfl) (Nm.F2 _).len ?_
    | refine take_load (by rfl) 24 (by rfl) (g := w5.heap.size) (n := 6) (by rfl) (t := 26) (xs := (F2 (v2 a))) (fun w hw => hw.has qx6 (Nat.ne_of_lt qx6.lt)) Tryd.underlying24 rfl (by kernel_rfl) (by rw [(Nm.F2 _).len]; decide) ?_
    | refine take_loadw (by rfl) 26 (by rfl) (g := w5.heap.size) (n := 12) (by rfl) (t := 26) (xs := (F2 (v2 a))) (fun w hw => hw.has qx6 (Nat.ne_of_lt qx6.lt)) Tryd.underlying26 rfl (by kernel_rfl) (Nm.F2 _).len ?_
    | refine wpTake_cons (.inl ⟨by rfl, fun w hw => (by unfold Oper.quietAt; go_simp; (first | with_reducible refine lRed2 _ ?_ _ (HG.out _ (hb6.trans (hw.below (HSS.out _ hb6) (HSS.out _ hb6)))) | with_reducible refine lAdd2 _ ?_ _ ?_ _ (HG.out _ (hb6.trans (hw.below (HSS.out _ hb6) (HSS.out _ hb6)))) | with_reducible refine lSub2 _ ?_ _ ?_ _ (HG.out _ (hb6.trans (hw.below (HSS.out _ hb6) (HSS.out _ hb6)))) | with_reducible refine lNeg2 _ ?_ _ (HG.out _ (hb6.trans (hw.below (HSS.out _ hb6) (HSS.out _ hb6)))) | with_reducible refine lMul2 _ ?_ _ ?_ _ (HG.out _ (hb6.trans (hw.below (HSS.out _ hb6) (HSS.out _ hb6)))) | with_reducible refine lInv2 _ ?_ _ (HD.out _ (hb6.trans (hw.below (HSS.out _ hb6) (HSS.out _ hb6)))) | with_reducible refine lConj2 _ ?_ _ (HG.out _ (hb6.trans (hw.below (HSS.out _ hb6) (HSS.out _ hb6)))) | with_reducible refine lXi2 _ ?_ _ (HG.out _ (hb6.trans (hw.below (HSS.out _ hb6) (HSS.out _ hb6)))) | with_reducible refine lScale2 _ ?_ _ ?_ _ (HG.out _ (hb6.trans (hw.below (HSS.out _ hb6) (HSS.out _ hb6)))) | with_reducible refine refRed2 _ ?_ _ | with_reducible refine refAdd2 _ ?_ _ ?_ _ | with_reducible refine refSub2 _ ?_ _ ?_ _ | with_reducible refine refNeg2 _ ?_ _ | with_reducible refine refMul2 _ ?_ _ ?_ _ | with_reducible refine refInv2 _ ?_ _ | with_reducible refine refConj2 _ ?_ _ | with_reducible refine refXi2 _ ?_ _ | with_reducible refine refScale2 _ ?_ _ ?_ _ | with_reducible refine one_c _) <;> (with_reducible first | exact Nm.fe _ | exact Nm.F2 _ | assumption | exact nm_one | exact nm_Z6 | (refine Nm.seg (m := 12) ?_ (by decide); assumption) | exact Nm.seg (m := 12) (Nm.F2 _) (by decide) | exact Nm.app2 (.fe _) (.fe _) | exact nm_two | exact nm_rep | exact nm_Z12 | exact Nm.app2 nm_one nm_one | exact Nm.app2 nm_one nm_rep | exact Nm.app2 nm_rep nm_one | exact Nm.app2 nm_two nm_rep | (refine Nm.app2 ?_ nm_Z6; assumption) | exact Nm.app2 (.fe _) nm_Z6 | exact ⟨rfl, words_of _ (by decide)⟩ | fail))⟩) ?_
    | refine take_skip (by rfl) ?_
    | refine wpTake_cons (Steady.of_yields (Or.inl ⟨by rfl, fun w => (by first | (go_simp; done) | (go_simp; with_reducible rfl))⟩)) ?_); simp only [List.getElem_toArray, List.getElem_cons_zero, List.getElem_cons_succ, Act.put, List.setIfInBounds_toArray, List.set_cons_zero, List.set_cons_succ])
  refine wpTake_nil ?_
  refine wpAnyU_end (by kernel_rfl) (fun w7 hq0 => ?_)
  have hq := (drawn_below w6).trans hq0
  have qa7 := qa6.keep hq
  have qb7 := qb6.keep hq
  have qz7 := qz6.keep hq
  have qi7 := qi6.keep hq
  have qx7 := qx6.keep hq
  have hb7 := hb6.trans (hq.mono (HSS.out _ hb6))
  clear hq0 hq hb6 qa6 qb6 qz6 qi6 qx6
  go_wp2
  refine wp_reads 6 0 w7.heap.size (by kernel_rfl) (by kernel_rfl) (by rfl) (by kernel_rfl) (fun _ _ d _ _ h => by cases d <;> exact h) ?_
  simp only [List.take_succ_cons, List.take_zero]
  repeat ((first
    | refine take_eql_t (by rfl) (by rfl) (by rfl) (by rfl) eqok2 gd2 (Nm.len (n := 12) (by with_reducible first | exact Nm.fe _ | exact Nm.F2 _ | assumption | exact nm_one | exact nm_Z6 | (refine Nm.seg (m := 12) ?_ (by decide); assumption) | exact Nm.seg (m := 12) (Nm.F2 _) (by decide) | exact Nm.app2 (.fe _) (.fe _) | exact nm_two | exact nm_rep | exact nm_Z12 | exact Nm.app2 nm_one nm_one | exact Nm.app2 nm_one nm_rep | exact Nm.app2 nm_rep nm_one | exact Nm.app2 nm_two nm_rep | (refine Nm.app2 ?_ nm_Z6; assumption) | exact Nm.app2 (.fe _) nm_Z6 | exact ⟨rfl, words_of _ (by decide)⟩ | fail)) (Nm.len (n := 12) (by with_reducible first | exact Nm.fe _ | exact Nm.F2 _ | assumption | exact nm_one | exact nm_Z6 | (refine Nm.seg (m := 12) ?_ (by decide); assumption) | exact Nm.seg (m := 12) (Nm.F2 _) (by decide) | exact Nm.app2 (.fe _) (.fe _) | exact nm_two | exact nm_rep | exact nm_Z12 | exact Nm.app2 nm_one nm_one | exact Nm.app2 nm_one nm_rep | exact Nm.app2 nm_rep nm_one | exact Nm.app2 nm_two nm_rep | (refine Nm.app2 ?_ nm_Z6; assumption) | exact Nm.app2 (.fe _) nm_Z6 | exact ⟨rfl, words_of _ (by decide)⟩ | fail)) (by with_reducible first | rfl | exact hm1.out | exact hii.out | exact hm0.out | exact hb0_.out) ?_
    | refine take_neq_t (by rfl) (by rfl) (by rfl) (by rfl) eqok2 gd2 (Nm.len (n := 12) (by with_reducible first | exact Nm.fe _ | exact Nm.F2 _ | assumption | exact nm_one | exact nm_Z6 | (refine Nm.seg (m := 12) ?_ (by decide); assumption) | exact Nm.seg (m := 12) (Nm.F2 _) (by decide) | exact Nm.app2 (.fe _) (.fe _) | exact nm_two | exact nm_rep | exact nm_Z12 | exact Nm.app2 nm_one nm_one | exact Nm.app2 nm_one nm_rep | exact Nm.app2 nm_rep nm_one | exact Nm.app2 nm_two nm_rep | (refine Nm.app2 ?_ nm_Z6; assumption) | exact Nm.app2 (.fe _) nm_Z6 | exact ⟨rfl, words_of _ (by decide)⟩ | fail)) (Nm.len (n := 12) (by with_reducible first | exact Nm.fe _ | exact Nm.F2 _ | assumption | exact nm_one | exact nm_Z6 | (refine Nm.seg (m := 12) ?_ (by decide); assumption) | exact Nm.seg (m := 12) (Nm.F2 _) (by decide) | exact Nm.app2 (.fe _) (.fe _) | exact nm_two | exact nm_rep | exact nm_Z12 | exact Nm.app2 nm_one nm_one | exact Nm.app2 nm_one nm_rep | exact Nm.app2 nm_rep nm_one | exact Nm.app2 nm_two nm_rep | (refine Nm.app2 ?_ nm_Z6; assumption) | exact Nm.app2 (.fe _) nm_Z6 | exact ⟨rfl, words_of _ (by decide)⟩ | fail)) (by with_reducible first | rfl | exact hm1.out | exact hii.out | exact hm0.out | exact hb0_.out) ?_
    | refine take_eql_f (by rfl) (by rfl) (by rfl) (by rfl) eqok2 gd2 (Nm.len (n := 12) (by with_reducible first | exact Nm.fe _ | exact Nm.F2 _ | assumption | exact nm_one | exact nm_Z6 | (refine Nm.seg (m := 12) ?_ (by decide); assumption) | exact Nm.seg (m := 12) (Nm.F2 _) (by decide) | exact Nm.app2 (.fe _) (.fe _) | exact nm_two | exact nm_rep | exact nm_Z12 | exact Nm.app2 nm_one nm_one | exact Nm.app2 nm_one nm_rep | exact Nm.app2 nm_rep nm_one | exact Nm.app2 nm_two nm_rep | (refine Nm.app2 ?_ nm_Z6; assumption) | exact Nm.app2 (.fe _) nm_Z6 | exact ⟨rfl, words_of _ (by decide)⟩ | fail)) (Nm.len (n := 12) (by with_reducible first | exact Nm.fe _ | exact Nm.F2 _ | assumption | exact nm_one | exact nm_Z6 | (refine Nm.seg (m := 12) ?_ (by decide); assumption) | exact Nm.seg (m := 12) (Nm.F2 _) (by decide) | exact Nm.app2 (.fe _) (.fe _) | exact nm_two | exact nm_rep | exact nm_Z12 | exact Nm.app2 nm_one nm_one | exact Nm.app2 nm_one nm_rep | exact Nm.app2 nm_rep nm_one | exact Nm.app2 nm_two nm_rep | (refine Nm.app2 ?_ nm_Z6; assumption) | exact Nm.app2 (.fe _) nm_Z6 | exact ⟨rfl, words_of _ (by decide)⟩ | fail)) (by with_reducible first | assumption | exact hx1.out) ?_
    | refine take_neq_f (by rfl) (by rfl) (by rfl) (by rfl) eqok2 gd2 (Nm.len (n := 12) (by with_reducible first | exact Nm.fe _ | exact Nm.F2 _ | assumption | exact nm_one | exact nm_Z6 | (refine Nm.seg (m := 12) ?_ (by decide); assumption) | exact Nm.seg (m := 12) (Nm.F2 _) (by decide) | exact Nm.app2 (.fe _) (.fe _) | exact nm_two | exact nm_rep | exact nm_Z12 | exact Nm.app2 nm_one nm_one | exact Nm.app2 nm_one nm_rep | exact Nm.app2 nm_rep nm_one | exact Nm.app2 nm_two nm_rep | (refine Nm.app2 ?_ nm_Z6; assumption) | exact Nm.app2 (.fe _) nm_Z6 | exact ⟨rfl, words_of _ (by decide)⟩ | fail)) (Nm.len (n := 12) (by with_reducible first | exact Nm.fe _ | exact Nm.F2 _ | assumption | exact nm_one | exact nm_Z6 | (refine Nm.seg (m := 12) ?_ (by decide); assumption) | exact Nm.seg (m := 12) (Nm.F2 _) (by decide) | exact Nm.app2 (.fe _) (.fe _) | exact nm_two | exact nm_rep | exact nm_Z12 | exact Nm.app2 nm_one nm_one | exact Nm.app2 nm_one nm_rep | exact Nm.app2 nm_rep nm_one | exact Nm.app2 nm_two nm_rep | (refine Nm.app2 ?_ nm_Z6; assumption) | exact Nm.app2 (.fe _) nm_Z6 | exact ⟨rfl, words_of _ (by decide)⟩ | fail)) (by with_reducible first | assumption | exact hx1.out) ?_
    | refine take_load (by rfl) 24 (by rfl) (g := S) (n := 6) (by rfl) (t := 26) (xs := a) (fun w hw => hw.has qa7 (Nat.ne_of_lt qa7.lt)) Tryd.underlying24 rfl (by kernel_rfl) (by rw [ha.len]; decide) ?_
    | refine take_loadw (by rfl) 26 (by rfl) (g := S) (n := 12) (by rfl) (t := 26) (xs := a) (fun w hw => hw.has qa7 (Nat.ne_of_lt qa7.lt)) Tryd.underlying26 rfl (by kernel_rfl) ha.len ?_
    | refine take_load (by rfl) 24 (by rfl) (g := S + 1) (n := 6) (by rfl) (t := 26) (xs := b) (fun w hw => hw.has qb7 (Nat.ne_of_lt qb7.lt)) Tryd.underlying24 rfl (by kernel_rfl) (by rw [hb.len]; decide) ?_
    | refine take_loadw (by rfl) 26 (by rfl) (g := S + 1) (n := 12) (by rfl) (t := 26) (xs := b) (fun w hw => hw.has qb7 (Nat.ne_of_lt qb7.lt)) Tryd.underlying26 rfl (by kernel_rfl) hb.len ?_
    | refine take_load (by rfl) 24 (by rfl) (g := w1.heap.size) (n := 6) (by rfl) (t := 26) (xs := [0, 0, 0, 0, 0, 0, 0, 0, 0, 0, 0, 0]) (fun w hw => hw.has qz7 (Nat.ne_of_lt qz7.lt)) Tryd.underlying24 rfl (by kernel_rfl) (by rw [(show List.length _ = 12 from rfl)]; decide) ?_
    | refine take_loadw (by rfl) 26 (by rfl) (g := w1.heap.size) (n := 12) (by rfl) (t := 26) (xs := [0, 0, 0, 0, 0, 0, 0, 0, 0, 0, 0, 0]) (fun w hw => hw.has qz7 (Nat.ne_of_lt qz7.lt)) Tryd.underlying26 rfl (by kernel_rfl) (show List.length _ = 12 from rfl) ?_
    | refine take_load (by rfl) 24 (by rfl) (g := w3.heap.size) (n := 6) (by rfl) (t := 26) (xs := (F2 (gi (v2 a)))) (fun w hw => hw.has qi7 (Nat.ne_of_lt qi7.lt)) Tryd.underlying24 rfl (by kernel_rfl) (by rw [(Nm.F2 _).len]; decide) ?_
    | refine take_loadw (by rfl) 26 (by rfl) (g := w3.heap.size) (n := 12) (by rfl) (t := 26) (xs := (F2 (gi (v2 a)))) (fun w hw => hw.has qi7 (Nat.ne_of_lt qi7.lt)) Tryd.underlying26 rfl (by kernel_rfl) (Nm.F2 _).len ?_
    | refine take_load (by rfl) 24 (by rfl) (g := w5.heap.size) (n := 6) (by rfl) (t := 26) (xs := (F2 (v2 a))) (fun w hw => hw.has qx7 (Nat.ne_of_lt qx7.lt)) Tryd.underlying24 rfl (by kernel_rfl) (by rw [(Nm.F2 _).len]; decide) ?_
    | refine take_loadw (by rfl) 26 (by rfl) (g := w5.heap.size) (n := 12) (by rfl) (t := 26) (xs := (F2 (v2 a))) (fun w hw => hw.has qx7 (Nat.ne_of_lt qx7.lt)) Tryd.underlying26 rfl (by kernel_rfl) (Nm.F2 _).len ?_
    | refine wpTake_cons (.inl ⟨by rfl, fun w hw => (by unfold Oper.quietAt; go_simp; (first | with_reducible refine lRed2 _ ?_ _ (HG.out _ (hb7.trans (hw.below (HSS.out _ hb7) (HSS.out _ hb7)))) | with_reducible refine lAdd2 _ ?_ _ ?_ _ (HG.out _ (hb7.trans (hw.below (HSS.out _ hb7) (HSS.out _ hb7)))) | with_reducible refine lSub2 _ ?_ _ ?_ _ (HG.out _ (hb7.trans (hw.below (HSS.out _ hb7) (HSS.out _ hb7)))) | with_reducible refine lNeg2 _ ?_ _ (HG.out _ (hb7.trans (hw.below (HSS.out _ hb7) (HSS.out _ hb7)))) | with_reducible refine lMul2 _ ?_ _ ?_ _ (HG.out _ (hb7.trans (hw.below (HSS.out _ hb7) (HSS.out _ hb7)))) | with_reducible refine lInv2 _ ?_ _ (HD.out _ (hb7.trans (hw.below (HSS.out _ hb7) (HSS.out _ hb7)))) | with_reducible refine lConj2 _ ?_ _ (HG.out _ (hb7.trans (hw.below (HSS.out _ hb7) (HSS.out _ hb7)))) | with_reducible refine lXi2 _ ?_ _ (HG.out _ (hb7.trans (hw.below (HSS.out _ hb7) (HSS.out _ hb7)))) | with_reducible refine lScale2 _ ?_ _ ?_ _ (HG.out _ (hb7.trans (hw.below (HSS.out _ hb7) (HSS.out _ hb7)))) | with_reducible refine refRed2 _ ?_ _ | with_reducible refine refAdd2 _ ?_ _ ?_ _ | with_reducible refine refSub2 _ ?_ _ ?_ _ | with_reducible refine refNeg2 _ ?_ _ | with_reducible refine refMul2 _ ?_ _ ?_ _ | with_reducible refine refInv2 _ ?_ _ | with_reducible refine refConj2 _ ?_ _ | with_reducible refine refXi2 _ ?_ _ | with_reducible refine refScale2 _ ?_ _ ?_ _ | with_reducible refine one_c _) <;> (with_reducible first | exact Nm.fe _ | exact Nm.F2 _ | assumption | exact nm_one | exact nm_Z6 | (refine Nm.seg (m := 12) ?_ (by decide); assumption) | exact Nm.seg (m := 12) (Nm.F2 _) (by decide) | exact Nm.app2 (.fe _) (.fe _) | exact nm_two | exact nm_rep | exact nm_Z12 | exact Nm.app2 nm_one nm_one | exact Nm.app2 nm_one nm_rep | exact Nm.app2 nm_rep nm_one | exact Nm.app2 nm_two nm_rep | (refine Nm.app2 ?_ nm_Z6; assumption) | exact Nm.app2 (.fe _) nm_Z6 | exact ⟨rfl, words_of _ (by decide)⟩ | fail))⟩) ?_
    | refine take_skip (by rfl) ?_
    | refine wpTake_cons (Steady.of_yields (Or.inl ⟨by rfl, fun w => (by first | (go_simp; done) | (go_simp; with_reducible rfl))⟩)) ?_); simp only [List.getElem_toArray, List.getElem_cons_zero, List.getElem_cons_succ, Act.put, List.setIfInBounds_toArray, List.set_cons_zero, List.set_cons_succ])
  refine wpTake_nil ?_
  refine wpAnyU_end (by kernel_rfl) (fun w8 hq0 => ?_)
  have hq := (drawn_below w7).trans hq0
  have qa8 := qa7.keep hq
  have qb8 := qb7.keep hq
  have qz8 := qz7.keep hq
  have qi8 := qi7.keep hq
  have qx8 := qx7.keep hq
  have hb8 := hb7.trans (hq.mono (HSS.out _ hb7))
  clear hq0 hq hb7 qa7 qb7 qz7 qi7 qx7
  go_wp2
  refine wp_reads 18 0 w8.heap.size (by kernel_rfl) (by kernel_rfl) (by rfl) (by kernel_rfl) (fun _ _ d _ _ h => by cases d <;> exact h) ?_
  simp only [List.take_succ_cons, List.take_zero]
  repeat ((first
    | refine take_eql_t (by rfl) (by rfl) (by rfl) (by rfl) eqok2 gd2 (Nm.len (n := 12) (by with_reducible first | exact Nm.fe _ | exact Nm.F2 _ | assumption | exact nm_one | exact nm_Z6 | (refine Nm.seg (m := 12) ?_ (by decide); assumption) | exact Nm.seg (m := 12) (Nm.F2 _) (by decide) | exact Nm.app2 (.fe _) (.fe _) | exact nm_two | exact nm_rep | exact nm_Z12 | exact Nm.app2 nm_one nm_one | exact Nm.app2 nm_one nm_rep | exact Nm.app2 nm_rep nm_one | exact Nm.app2 nm_two nm_rep | (refine Nm.app2 ?_ nm_Z6; assumption) | exact Nm.app2 (.fe _) nm_Z6 | exact ⟨rfl, words_of _ (by decide)⟩ | fail)) (Nm.len (n := 12) (by with_reducible first | exact Nm.fe _ | exact Nm.F2 _ | assumption | exact nm_one | exact nm_Z6 | (refine Nm.seg (m := 12) ?_ (by decide); assumption) | exact Nm.seg (m := 12) (Nm.F2 _) (by decide) | exact Nm.app2 (.fe _) (.fe _) | exact nm_two | exact nm_rep | exact nm_Z12 | exact Nm.app2 nm_one nm_one | exact Nm.app2 nm_one nm_rep | exact Nm.app2 nm_rep nm_one | exact Nm.app2 nm_two nm_rep | (refine Nm.app2 ?_ nm_Z6; assumption) | exact Nm.app2 (.fe _) nm_Z6 | exact ⟨rfl, words_of _ (by decide)⟩ | fail)) (by with_reducible first | rfl | exact hm1.out | exact hii.out | exact hm0.out | exact hb0_.out) ?_
    | refine take_neq_t (by rfl) (by rfl) (by rfl) (by rfl) eqok2 gd2 (Nm.len (n := 12) (by with_reducible first | exact Nm.fe _ | exact Nm.F2 _ | assumption | exact nm_one | exact nm_Z6 | (refine Nm.seg (m := 12) ?_ (by decide); assumption) | exact Nm.seg (m := 12) (Nm.F2 _) (by decide) | exact Nm.app2 (.fe _) (.fe _) | exact nm_two | exact nm_rep | exact nm_Z12 | exact Nm.app2 nm_one nm_one | exact Nm.app2 nm_one nm_rep | exact Nm.app2 nm_rep nm_one | exact Nm.app2 nm_two nm_rep | (refine Nm.app2 ?_ nm_Z6; assumption) | exact Nm.app2 (.fe _) nm_Z6 | exact ⟨rfl, words_of _ (by decide)⟩ | fail)) (Nm.len (n := 12) (by with_reducible first | exact Nm.fe _ | exact Nm.F2 _ | assumption | exact nm_one | exact nm_Z6 | (refine Nm.seg (m := 12) ?_ (by decide); assumption) | exact Nm.seg (m := 12) (Nm.F2 _) (by decide) | exact Nm.app2 (.fe _) (.fe _) | exact nm_two | exact nm_rep | exact nm_Z12 | exact Nm.app2 nm_one nm_one | exact Nm.app2 nm_one nm_rep | exact Nm.app2 nm_rep nm_one | exact Nm.app2 nm_two nm_rep | (refine Nm.app2 ?_ nm_Z6; assumption) | exact Nm.app2 (.fe _) nm_Z6 | exact ⟨rfl, words_of _ (by decide)⟩ | fail)) (by with_reducible first | rfl | exact hm1.out | exact hii.out | exact hm0.out | exact hb0_.out) ?_
    | refine take_eql_f (by rfl) (by rfl) (by rfl) (by rfl) eqok2 gd2 (Nm.len (n := 12) (by with_reducible first | exact Nm.fe _ | exact Nm.F2 _ | assumption | exact nm_one | exact nm_Z6 | (refine Nm.seg (m := 12) ?_ (by decide); assumption) | exact Nm.seg (m := 12) (Nm.F2 _) (by decide) | exact Nm.app2 (.fe _) (.fe _) | exact nm_two | exact nm_rep | exact nm_Z12 | exact Nm.app2 nm_one nm_one | exact Nm.app2 nm_one nm_rep | exact Nm.app2 nm_rep nm_one | exact Nm.app2 nm_two nm_rep | (refine Nm.app2 ?_ nm_Z6; assumption) | exact Nm.app2 (.fe _) nm_Z6 | exact ⟨rfl, words_of _ (by decide)⟩ | fail)) (Nm.len (n := 12) (by with_reducible first | exact Nm.fe _ | exact Nm.F2 _ | assumption | exact nm_one | exact nm_Z6 | (refine Nm.seg (m := 12) ?_ (by decide); assumption) | exact Nm.seg (m := 12) (Nm.F2 _) (by decide) | exact Nm.app2 (.fe _) (.fe _) | exact nm_two | exact nm_rep | exact nm_Z12 | exact Nm.app2 nm_one nm_one | exact Nm.app2 nm_one nm_rep | exact Nm.app2 nm_rep nm_one | exact Nm.app2 nm_two nm_rep | (refine Nm.app2 ?_ nm_Z6; assumption) | exact Nm.app2 (.fe _) nm_Z6 | exact ⟨rfl, words_of _ (by decide)⟩ | fail)) (by with_reducible first | assumption | exact hx1.out) ?_
    | refine take_neq_f (by rfl) (by rfl) (by rfl) (by rfl) eqok2 gd2 (Nm.len (n := 12) (by with_reducible first | exact Nm.fe _ | exact Nm.F2 _ | assumption | exact nm_one | exact nm_Z6 | (refine Nm.seg (m := 12) ?_ (by decide); assumption) | exact Nm.seg (m := 12) (Nm.F2 _) (by decide) | exact Nm.app2 (.fe _) (.fe _) | exact nm_two | exact nm_rep | exact nm_Z12 | exact Nm.app2 nm_one nm_one | exact Nm.app2 nm_one nm_rep | exact Nm.app2 nm_rep nm_one | exact Nm.app2 nm_two nm_rep | (refine Nm.app2 ?_ nm_Z6; assumption) | exact Nm.app2 (.fe _) nm_Z6 | exact ⟨rfl, words_of _ (by decide)⟩ | fail)) (Nm.len (n := 12) (by with_reducible first | exact Nm.fe _ | exact Nm.F2 _ | assumption | exact nm_one | exact nm_Z6 | (refine Nm.seg (m := 12) ?_ (by decide); assumption) | exact Nm.seg (m := 12) (Nm.F2 _) (by decide) | exact Nm.app2 (.fe _) (.fe _) | exact nm_two | exact nm_rep | exact nm_Z12 | exact Nm.app2 nm_one nm_one | exact Nm.app2 nm_one nm_rep | exact Nm.app2 nm_rep nm_one | exact Nm.app2 nm_two nm_rep | (refine Nm.app2 ?_ nm_Z6; assumption) | exact Nm.app2 (.fe _) nm_Z6 | exact ⟨rfl, words_of _ (by decide)⟩ | fail)) (by with_reducible first | assumption | exact hx1.out) ?_
    | refine take_load (by rfl) 24 (by rfl) (g := S) (n := 6) (by rfl) (t := 26) (xs := a) (fun w hw => hw.has qa8 (Nat.ne_of_lt qa8.lt)) Tryd.underlying24 rfl (by kernel_rfl) (by rw [ha.len]; decide) ?_
    | refine take_loadw (by rfl) 26 (by rfl) (g := S) (n := 12) (by rfl) (t := 26) (xs := a) (fun w hw => hw.has qa8 (Nat.ne_of_lt qa8.lt)) Tryd.underlying26 rfl (by kernel_rfl) ha.len ?_
    | refine take_load (by rfl) 24 (by rfl) (g := S + 1) (n := 6) (by rfl) (t := 26) (xs := b) (fun w hw => hw.has qb8 (Nat.ne_of_lt qb8.lt)) Tryd.underlying24 rfl (by kernel_rfl) (by rw [hb.len]; decide) ?_
    | refine take_loadw (by rfl) 26 (by rfl) (g := S + 1) (n := 12) (by rfl) (t := 26) (xs := b) (fun w hw => hw.has qb8 (Nat.ne_of_lt qb8.lt)) Tryd.underlying26 rfl (by kernel_rfl) hb.len ?_
    | refine take_load (by rfl) 24 (by rfl) (g := w1.heap.size) (n := 6) (by rfl) (t := 26) (xs := [0, 0, 0, 0, 0, 0, 0, 0, 0, 0, 0, 0]) (fun w hw => hw.has qz8 (Nat.ne_of_lt qz8.lt)) Tryd.underlying24 rfl (by kernel_rfl) (by rw [(show List.length _ = 12 from rfl)]; decide) ?_
    | refine take_loadw (by rfl) 26 (by rfl) (g := w1.heap.size) (n := 12) (by rfl) (t := 26) (xs := [0, 0, 0, 0, 0, 0, 0, 0, 0, 0, 0, 0]) (fun w hw => hw.has qz8 (Nat.ne_of_lt qz8.lt)) Tryd.underlying26 rfl (by kernel_rfl) (show List.length _ = 12 from rfl) ?_
    | refine take_load (by rfl) 24 (by rfl) (g := w3.heap.size) (n := 6) (by rfl) (t := 26) (xs := (F2 (gi (v2 a)))) (fun w hw => hw.has qi8 (Nat.ne_of_lt qi8.lt)) Tryd.underlying24 rfl (by kernel_rfl) (by rw [(Nm.F2 _).len]; decide) ?_
    | refine take_loadw (by rfl) 26 (by rfl) (g := w3.heap.size) (n := 12) (by rfl) (t := 26) (xs := (F2 (gi (v2 a)))) (fun w hw => hw.has qi8 (Nat.ne_of_lt qi8.lt)) Tryd.underlying26 rfl (by kernel_rfl) (Nm.F2 _).len ?_
    | refine take_load (by rfl) 24 (by rfl) (g := w5.heap.size) (n := 6) (by rfl) (t := 26) (xs := (F2 (v2 a))) (fun w hw => hw.has qx8 (Nat.ne_of_lt qx8.lt)) Tryd.underlying24 rfl (by kernel_rfl) (by rw [(Nm.F2 _).len]; decide) ?_
    | refine take_loadw (by rfl) 26 (by rfl) (g := w5.heap.size) (n := 12) (by rfl) (t := 26) (xs := (F2 (v2 a))) (fun w hw => hw.has qx8 (Nat.ne_of_lt qx8.lt)) Tryd.underlying26 rfl (by kernel_rfl) (Nm.F2 _).len ?_
    | refine wpTake_cons (.inl ⟨by rfl, fun w hw => (by unfold Oper.quietAt; go_simp; (first | with_reducible refine lRed2 _ ?_ _ (HG.out _ (hb8.trans (hw.below (HSS.out _ hb8) (HSS.out _ hb8)))) | with_reducible refine lAdd2 _ ?_ _ ?_ _ (HG.out _ (hb8.trans (hw.below (HSS.out _ hb8) (HSS.out _ hb8)))) | with_reducible refine lSub2 _ ?_ _ ?_ _ (HG.out _ (hb8.trans (hw.below (HSS.out _ hb8) (HSS.out _ hb8)))) | with_reducible refine lNeg2 _ ?_ _ (HG.out _ (hb8.trans (hw.below (HSS.out _ hb8) (HSS.out _ hb8)))) | with_reducible refine lMul2 _ ?_ _ ?_ _ (HG.out _ (hb8.trans (hw.below (HSS.out _ hb8) (HSS.out _ hb8)))) | with_reducible refine lInv2 _ ?_ _ (HD.out _ (hb8.trans (hw.below (HSS.out _ hb8) (HSS.out _ hb8)))) | with_reducible refine lConj2 _ ?_ _ (HG.out _ (hb8.trans (hw.below (HSS.out _ hb8) (HSS.out _ hb8)))) | with_reducible refine lXi2 _ ?_ _ (HG.out _ (hb8.trans (hw.below (HSS.out _ hb8) (HSS.out _ hb8)))) | with_reducible refine lScale2 _ ?_ _ ?_ _ (HG.out _ (hb8.trans (hw.below (HSS.out _ hb8) (HSS.out _ hb8)))) | with_reducible refine refRed2 _ ?_ _ | with_reducible refine refAdd2 _ ?_ _ ?_ _ | with_reducible refine refSub2 _ ?_ _ ?_ _ | with_reducible refine refNeg2 _ ?_ _ | with_reducible refine refMul2 _ ?_ _ ?_ _ | with_reducible refine refInv2 _ ?_ _ | with_reducible refine refConj2 _ ?_ _ | with_reducible refine refXi2 _ ?_ _ | with_reducible refine refScale2 _ ?_ _ ?_ _ | with_reducible refine one_c _) <;> (with_reducible first | exact Nm.fe _ | exact Nm.F2 _ | assumption | exact nm_one | exact nm_Z6 | (refine Nm.seg (m := 12) ?_ (by decide); assumption) | exact Nm.seg (m := 12) (Nm.F2 _) (by decide) | exact Nm.app2 (.fe _) (.fe _) | exact nm_two | exact nm_rep | exact nm_Z12 | exact Nm.app2 nm_one nm_one | exact Nm.app2 nm_one nm_rep | exact Nm.app2 nm_rep nm_one | exact Nm.app2 nm_two nm_rep | (refine Nm.app2 ?_ nm_Z6; assumption) | exact Nm.app2 (.fe _) nm_Z6 | exact ⟨rfl, words_of _ (by decide)⟩ | fail))⟩) ?_
    | refine take_skip (by rfl) ?_
    | refine wpTake_cons (Steady.of_yields (Or.inl ⟨by rfl, fun w => (by first | (go_simp; done) | (go_simp; with_reducible rfl))⟩)) ?_); simp only [List.getElem_toArray, List.getElem_cons_zero, List.getElem_cons_succ, Act.put, List.setIfInBounds_toArray, List.set_cons_zero, List.set_cons_succ])
  refine wpTake_nil ?_
  refine wpAnyU_end (by kernel_rfl) (fun w9 hq0 => ?_)
  have hq := (drawn_below w8).trans hq0
  have qa9 := qa8.keep hq
  have qb9 := qb8.keep hq
  have qz9 := qz8.keep hq
  have qi9 := qi8.keep hq
  have qx9 := qx8.keep hq
  have hb9 := hb8.trans (hq.mono (HSS.out _ hb8))
  clear hq0 hq hb8 qa8 qb8 qz8 qi8 qx8
  go_wp2
  go_ret
  exact ⟨rfl, hb9⟩

set_option maxRecDepth 100000 in
set_option maxHeartbeats 4000000 in
theorem inverse_b1 (a : List Int) (ha : Nm 12 a) (b : List Int) (hb : Nm 12 b) (w : World) (hG : GlobD w) (hz : ¬ Z2 (v2 a)) (hy : ¬ Z2 (v2 b)) : Calls Tryd.prog 7 #[.agg (vals .u64 a), .agg (vals .u64 b)] w fun e w' => e = .returned (.bool true) ∧ Below w.heap.size w w' := by
  obtain ⟨S, hS⟩ : ∃ S, w.heap.size = S := ⟨_, rfl⟩
  have qa0 : Has ((w.alloc (.cells (vals .u64 a) 26)).alloc (.cells (vals .u64 b) 26)) (S) 26 (vals .u64 a) := ((Has.new' _ hS.symm _ _).alloc _)
  have qb0 : Has ((w.alloc (.cells (vals .u64 a) 26)).alloc (.cells (vals .u64 b) 26)) (S + 1) 26 (vals .u64 b) := (Has.new' _ (by simp only [World.size_alloc, hS]) _ _)
  have hb0 : Below S w ((w.alloc (.cells (vals .u64 a) 26)).alloc (.cells (vals .u64 b) 26)) := by rw [← hS]; exact (((Below.refl _ _).alloc (Nat.le_refl _) _).alloc (by simp <;> omega) _)
  have hsz0 : ((w.alloc (.cells (vals .u64 a) 26)).alloc (.cells (vals .u64 b) 26)).heap.size = S + 2 := by simp only [World.size_alloc, hS]
  have HSS : Keep (∀ x : World, Below S w x → S ≤ x.heap.size) := ⟨fun x hb => Nat.le_trans (by omega) hb.size⟩
  have HD : Keep (∀ x : World, Below S w x → GlobD x) := ⟨fun x hb => hG.keep (by rw [hS]; exact hb)⟩
  have HG : Keep (∀ x : World, Below S w x → Glob x) := ⟨fun x hb => (HD.out x hb).toGlob⟩
  clear hG
  have hx1 : Keep (F2 (v2 a) ≠ [0, 0, 0, 0, 0, 0, 0, 0, 0, 0, 0, 0]) := ⟨fun h => hz ((F2_zero _).1 h)⟩
  have hm1 : Keep (F2 (gm (v2 a) (v2 (F2 (gi (v2 a))))) = [1, 0, 0, 0, 0, 0, 0, 0, 0, 0, 0, 0]) := ⟨by rw [← F2_O]; exact F2_eq ((gm_congr E2.rfl (v2_F2 _)).trans (gm_gi hz))⟩
  have hii : Keep (F2 (gi (v2 (F2 (gi (v2 a))))) = F2 (v2 a)) := ⟨F2_eq ((gi_congr (v2_F2 _)).trans (gi_gi hz))⟩
  have hm2 : Keep (F2 (gm (v2 a) (v2 b)) ≠ [0, 0, 0, 0, 0, 0, 0, 0, 0, 0, 0, 0]) := ⟨fun h => hy (gm_zero ((F2_zero _).1 h) hz)⟩
  have hb1_ : Keep (F2 (v2 b) ≠ [0, 0, 0, 0, 0, 0, 0, 0, 0, 0, 0, 0]) := ⟨fun h => hy ((F2_zero _).1 h)⟩
  clear hz hy
  rw [hS]
  go_enter Tryd.func7, Tryd.ntmps7
  go_wp2_with (first
    | (refine store_abs2 (by rfl) 26 (.tmp 8) (.tmp 16) (by rfl) (by rfl) (w5.heap.size) (vals .u64 (F2 (v2 a))) (by rfl) (by rfl) 26 (vals .u64 Z12) (Has.new' _ rfl _ _) (by rw [vals_size, (Nm.F2 _).len]; kernel_rfl) (by rw [vals_size, vals_size, (Nm.F2 _).len]; rfl) vals_one ?_
       intro w6 qx6 hkeep hbg
       have hbe := ((Below.refl w5.heap.size w5).alloc (Nat.le_refl _) (.cells (vals .u64 Z12) 26)).trans hbg
       have Nax := qa5.lt
       have qa6 := qa5.keep hbe
       have Nbx := qb5.lt
       have qb6 := qb5.keep hbe
       have Nzx := qz5.lt
       have qz6 := qz5.keep hbe
       have Nix := qi5.lt
       have qi6 := qi5.keep hbe
       have Mx : S ≤ w5.heap.size := HSS.out _ hb5
       have hb6 := hb5.trans (hbe.mono Mx)
       clear hkeep hbg hbe hb5 qa5 qb5 qz5 qi5)
    | (have hq0 := hb4
       clear hq0
       go_at_call 12
       refine (lRed2 a ha _ (HG.out _ hb4)).mono ?_
       rintro e w5 ⟨rfl, hq⟩
       have qa5 := qa4.keep hq
       have qb5 := qb4.keep hq
       have qz5 := qz4.keep hq
       have qi5 := qi4.keep hq
       have hb5 := hb4.trans (hq.mono (HSS.out _ hb4))
       clear hq hb4 qa4 qb4 qz4 qi4)
    | (refine wpList_load_row rfl 26 (.tmp 2) rfl (S) rfl _ _ _ _ qa4.eq Tryd.underlying26 rfl (by rw [vals_size, ha.len]; kernel_rfl) ?_)
    | (refine store_abs2 (by rfl) 26 (.tmp 7) (.tmp 14) (by rfl) (by rfl) (w3.heap.size) (vals .u64 (F2 (gi (v2 a)))) (by rfl) (by rfl) 26 (vals .u64 Z12) (Has.new' _ rfl _ _) (by rw [vals_size, (Nm.F2 _).len]; kernel_rfl) (by rw [vals_size, vals_size, (Nm.F2 _).len]; rfl) vals_one ?_
       intro w4 qi4 hkeep hbg
       have hbe := ((Below.refl w3.heap.size w3).alloc (Nat.le_refl _) (.cells (vals .u64 Z12) 26)).trans hbg
       have Nai := qa3.lt
       have qa4 := qa3.keep hbe
       have Nbi := qb3.lt
       have qb4 := qb3.keep hbe
       have Nzi := qz3.lt
       have qz4 := qz3.keep hbe
       have Mi : S ≤ w3.heap.size := HSS.out _ hb3
       have hb4 := hb3.trans (hbe.mono Mi)
       clear hkeep hbg hbe hb3 qa3 qb3 qz3)
    | (have hq0 := hb2
       clear hq0
       go_at_call 26
       refine (lInv2 a ha _ (HD.out _ hb2)).mono ?_
       rintro e w3 ⟨rfl, hq⟩
       have qa3 := qa2.keep hq
       have qb3 := qb2.keep hq
       have qz3 := qz2.keep hq
       have hb3 := hb2.trans (hq.mono (HSS.out _ hb2))
       clear hq hb2 qa2 qb2 qz2)
    | (refine wpList_load_row rfl 26 (.tmp 2) rfl (S) rfl _ _ _ _ qa2.eq Tryd.underlying26 rfl (by rw [vals_size, ha.len]; kernel_rfl) ?_)
    | (refine store_abs2 (by rfl) 26 (.tmp 6) (.tmp 12) (by rfl) (by rfl) (w1.heap.size) (vals .u64 [0, 0, 0, 0, 0, 0, 0, 0, 0, 0, 0, 0]) (by rfl) (by rfl) 26 (vals .u64 Z12) (Has.new' _ rfl _ _) (by rw [vals_size, (show List.length _ = 12 from rfl)]; kernel_rfl) (by rw [vals_size, vals_size, (show List.length _ = 12 from rfl)]; rfl) vals_one ?_
       intro w2 qz2 hkeep hbg
       have hbe := ((Below.refl w1.heap.size w1).alloc (Nat.le_refl _) (.cells (vals .u64 Z12) 26)).trans hbg
       have Naz := qa1.lt
       have qa2 := qa1.keep hbe
       have Nbz := qb1.lt
       have qb2 := qb1.keep hbe
       have Mz : S ≤ w1.heap.size := HSS.out _ hb1
       have hb2 := hb1.trans (hbe.mono Mz)
       clear hkeep hbg hbe hb1 qa1 qb1)
    | (refine wpList_buildTo (by rfl) 26 #[] (by rfl) (some 12) (by rfl) (vals .u64 [0, 0, 0, 0, 0, 0, 0, 0, 0, 0, 0, 0]) (by kernel_rfl) ?_)
    | (have hq0 := hb0
       clear hq0
       go_at_call 11
       refine (awake_c _ (HD.out _ hb0)).mono ?_
       rintro e w1 ⟨rfl, hq⟩
       have qa1 := qa0.keep hq
       have qb1 := qb0.keep hq
       have hb1 := hb0.trans (hq.mono (HSS.out _ hb0))
       clear hq hb0 qa0 qb0))
  refine wp_reads 27 0 w6.heap.size (by kernel_rfl) (by kernel_rfl) (by rfl) (by kernel_rfl) (fun _ _ d _ _ h => by cases d <;> exact h) ?_
  simp only [List.take_succ_cons, List.take_zero]
  repeat ((first
    | refine take_eql_t (by rfl) (by rfl) (by rfl) (by rfl) eqok2 gd2 (Nm.len (n := 12) (by with_reducible first | exact Nm.fe _ | exact Nm.F2 _ | assumption | exact nm_one | exact nm_Z6 | (refine Nm.seg (m := 12) ?_ (by decide); assumption) | exact Nm.seg (m := 12) (Nm.F2 _) (by decide) | exact Nm.app2 (.fe _) (.fe _) | exact nm_two | exact nm_rep | exact nm_Z12 | exact Nm.app2 nm_one nm_one | exact Nm.app2 nm_one nm_rep | exact Nm.app2 nm_rep nm_one | exact Nm.app2 nm_two nm_rep | (refine Nm.app2 ?_ nm_Z6; assumption) | exact Nm.app2 (.fe _) nm_Z6 | exact ⟨rfl, words_of _ (by decide)⟩ | fail)) (Nm.len (n := 12) (by with_reducible first | exact Nm.fe _ | exact Nm.F2 _ | assumption | exact nm_one | exact nm_Z6 | (refine Nm.seg (m := 12) ?_ (by decide); assumption) | exact Nm.seg (m := 12) (Nm.F2 _) (by decide) | exact Nm.app2 (.fe _) (.fe _) | exact nm_two | exact nm_rep | exact nm_Z12 | exact Nm.app2 nm_one nm_one | exact Nm.app2 nm_one nm_rep | exact Nm.app2 nm_rep nm_one | exact Nm.app2 nm_two nm_rep | (refine Nm.app2 ?_ nm_Z6; assumption) | exact Nm.app2 (.fe _) nm_Z6 | exact ⟨rfl, words_of _ (by decide)⟩ | fail)) (by with_reducible first | rfl | exact hm1.out | exact hii.out) ?_
    | refine take_neq_t (by rfl) (by rfl) (by rfl) (by rfl) eqok2 gd2 (Nm.len (n := 12) (by with_reducible first | exact Nm.fe _ | exact Nm.F2 _ | assumption | exact nm_one | exact nm_Z6 | (refine Nm.seg (m := 12) ?_ (by decide); assumption) | exact Nm.seg (m := 12) (Nm.F2 _) (by decide) | exact Nm.app2 (.fe _) (.fe _) | exact nm_two | exact nm_rep | exact nm_Z12 | exact Nm.app2 nm_one nm_one | exact Nm.app2 nm_one nm_rep | exact Nm.app2 nm_rep nm_one | exact Nm.app2 nm_two nm_rep | (refine Nm.app2 ?_ nm_Z6; assumption) | exact Nm.app2 (.fe _) nm_Z6 | exact ⟨rfl, words_of _ (by decide)⟩ | fail)) (Nm.len (n := 12) (by with_reducible first | exact Nm.fe _ | exact Nm.F2 _ | assumption | exact nm_one | exact nm_Z6 | (refine Nm.seg (m := 12) ?_ (by decide); assumption) | exact Nm.seg (m := 12) (Nm.F2 _) (by decide) | exact Nm.app2 (.fe _) (.fe _) | exact nm_two | exact nm_rep | exact nm_Z12 | exact Nm.app2 nm_one nm_one | exact Nm.app2 nm_one nm_rep | exact Nm.app2 nm_rep nm_one | exact Nm.app2 nm_two nm_rep | (refine Nm.app2 ?_ nm_Z6; assumption) | exact Nm.app2 (.fe _) nm_Z6 | exact ⟨rfl, words_of _ (by decide)⟩ | fail)) (by with_reducible first | rfl | exact hm1.out | exact hii.out) ?_
    | refine take_eql_f (by rfl) (by rfl) (by rfl) (by rfl) eqok2 gd2 (Nm.len (n := 12) (by with_reducible first | exact Nm.fe _ | exact Nm.F2 _ | assumption | exact nm_one | exact nm_Z6 | (refine Nm.seg (m := 12) ?_ (by decide); assumption) | exact Nm.seg (m := 12) (Nm.F2 _) (by decide) | exact Nm.app2 (.fe _) (.fe _) | exact nm_two | exact nm_rep | exact nm_Z12 | exact Nm.app2 nm_one nm_one | exact Nm.app2 nm_one nm_rep | exact Nm.app2 nm_rep nm_one | exact Nm.app2 nm_two nm_rep | (refine Nm.app2 ?_ nm_Z6; assumption) | exact Nm.app2 (.fe _) nm_Z6 | exact ⟨rfl, words_of _ (by decide)⟩ | fail)) (Nm.len (n := 12) (by with_reducible first | exact Nm.fe _ | exact Nm.F2 _ | assumption | exact nm_one | exact nm_Z6 | (refine Nm.seg (m := 12) ?_ (by decide); assumption) | exact Nm.seg (m := 12) (Nm.F2 _) (by decide) | exact Nm.app2 (.fe _) (.fe _) | exact nm_two | exact nm_rep | exact nm_Z12 | exact Nm.app2 nm_one nm_one | exact Nm.app2 nm_one nm_rep | exact Nm.app2 nm_rep nm_one | exact Nm.app2 nm_two nm_rep | (refine Nm.app2 ?_ nm_Z6; assumption) | exact Nm.app2 (.fe _) nm_Z6 | exact ⟨rfl, words_of _ (by decide)⟩ | fail)) (by with_reducible first | assumption | exact hx1.out | exact hm2.out | exact hb1_.out) ?_
    | refine take_neq_f (by rfl) (by rfl) (by rfl) (by rfl) eqok2 gd2 (Nm.len (n := 12) (by with_reducible first | exact Nm.fe _ | exact Nm.F2 _ | assumption | exact nm_one | exact nm_Z6 | (refine Nm.seg (m := 12) ?_ (by decide); assumption) | exact Nm.seg (m := 12) (Nm.F2 _) (by decide) | exact Nm.app2 (.fe _) (.fe _) | exact nm_two | exact nm_rep | exact nm_Z12 | exact Nm.app2 nm_one nm_one | exact Nm.app2 nm_one nm_rep | exact Nm.app2 nm_rep nm_one | exact Nm.app2 nm_two nm_rep | (refine Nm.app2 ?_ nm_Z6; assumption) | exact Nm.app2 (.fe _) nm_Z6 | exact ⟨rfl, words_of _ (by decide)⟩ | fail)) (Nm.len (n := 12) (by with_reducible first | exact Nm.fe _ | exact Nm.F2 _ | assumption | exact nm_one | exact nm_Z6 | (refine Nm.seg (m := 12) ?_ (by decide); assumption) | exact Nm.seg (m := 12) (Nm.F2 _) (by decide) | exact Nm.app2 (.fe _) (.fe _) | exact nm_two | exact nm_rep | exact nm_Z12 | exact Nm.app2 nm_one nm_one | exact Nm.app2 nm_one nm_rep | exact Nm.app2 nm_rep nm_one | exact Nm.app2 nm_two nm_rep | (refine Nm.app2 ?_ nm_Z6; assumption) | exact Nm.app2 (.fe _) nm_Z6 | exact ⟨rfl, words_of _ (by decide)⟩ | fail)) (by with_reducible first | assumption | exact hx1.out | exact hm2.out | exact hb1_.out) ?_
    | refine take_load (by rfl) 24 (by rfl) (g := S) (n := 6) (by rfl) (t := 26) (xs := a) (fun w hw => hw.has qa6 (Nat.ne_of_lt qa6.lt)) Tryd.underlying24 rfl (by kernel_rfl) (by rw [ha.len]; decide) ?_
    | refine take_loadw (by rfl) 26 (by rfl) (g := S) (n := 12) (by rfl) (t := 26) (xs := a) (fun w hw => hw.has qa6 (Nat.ne_of_lt qa6.lt)) Tryd.underlying26 rfl (by kernel_rfl) ha.len ?_
    | refine take_load (by rfl) 24 (by rfl) (g := S + 1) (n := 6) (by rfl) (t := 26) (xs := b) (fun w hw => hw.has qb6 (Nat.ne_of_lt qb6.lt)) Tryd.underlying24 rfl (by kernel_rfl) (by rw [hb.len]; decide) ?_
    | refine take_loadw (by rfl) 26 (by rfl) (g := S + 1) (n := 12) (by rfl) (t := 26) (xs := b) (fun w hw => hw.has qb6 (Nat.ne_of_lt qb6.lt)) Tryd.underlying26 rfl (by kernel_rfl) hb.len ?_
    | refine take_load (by rfl) 24 (by rfl) (g := w1.heap.size) (n := 6) (by rfl) (t := 26) (xs := [0, 0, 0, 0, 0, 0, 0, 0, 0, 0, 0, 0]) (fun w hw => hw.has qz6 (Nat.ne_of_lt qz6.lt)) Tryd.underlying24 rfl (by kernel_rfl) (by rw [(show List.length _ = 12 from rfl)]; decide) ?_
    | refine take_loadw (by rfl) 26 (by rfl) (g := w1.heap.size) (n := 12) (by rfl) (t := 26) (xs := [0, 0, 0, 0, 0, 0, 0, 0, 0, 0, 0, 0]) (fun w hw => hw.has qz6 (Nat.ne_of_lt qz6.lt)) Tryd.underlying26 rfl (by kernel_rfl) (show List.length _ = 12 from rfl) ?_
    | refine take_load (by rfl) 24 (by rfl) (g := w3.heap.size) (n := 6) (by rfl) (t := 26) (xs := (F2 (gi (v2 a)))) (fun w hw => hw.has qi6 (Nat.ne_of_lt qi6.lt)) Tryd.underlying24 rfl (by kernel_rfl) (by rw [(Nm.F2 _).len]; decide) ?_
    | refine take_loadw (by rfl) 26 (by rfl) (g := w3.heap.size) (n := 12) (by rfl) (t := 26) (xs := (F2 (gi (v2 a)))) (fun w hw => hw.has qi6 (Nat.ne_of_lt qi6.lt)) Tryd.underlying26 rfl (by kernel_rfl) (Nm.F2 _).len ?_
    | refine take_load (by rfl) 24 (by rfl) (g := w5.heap.size) (n := 6) (by rfl) (t := 26) (xs := (F2 (v2 a))) (fun w hw => hw.has qx6 (Nat.ne_of_lt qx6.lt)) Tryd.underlying24 rfl (by kernel_rfl) (by rw [(Nm.F2 _).len]; decide) ?_
    | refine take_loadw (by rfl) 26 (by rfl) (g := w5.heap.size) (n := 12) (by rfl) (t := 26) (xs := (F2 (v2 a))) (fun w hw => hw.has qx6 (Nat.ne_of_lt qx6.lt)) Tryd.underlying26 rfl (by kernel_rfl) (Nm.F2 _).len ?_
    | refine wpTake_cons (.inl ⟨by rfl, fun w hw => (by unfold Oper.quietAt; go_simp; (first | with_reducible refine lRed2 _ ?_ _ (HG.out _ (hb6.trans (hw.below (HSS.out _ hb6) (HSS.out _ hb6)))) | with_reducible refine lAdd2 _ ?_ _ ?_ _ (HG.out _ (hb6.trans (hw.below (HSS.out _ hb6) (HSS.out _ hb6)))) | with_reducible refine lSub2 _ ?_ _ ?_ _ (HG.out _ (hb6.trans (hw.below (HSS.out _ hb6) (HSS.out _ hb6)))) | with_reducible refine lNeg2 _ ?_ _ (HG.out _ (hb6.trans (hw.below (HSS.out _ hb6) (HSS.out _ hb6)))) | with_reducible refine lMul2 _ ?_ _ ?_ _ (HG.out _ (hb6.trans (hw.below (HSS.out _ hb6) (HSS.out _ hb6)))) | with_reducible refine lInv2 _ ?_ _ (HD.out _ (hb6.trans (hw.below (HSS.out _ hb6) (HSS.out _ hb6)))) | with_reducible refine lConj2 _ ?_ _ (HG.out _ (hb6.trans (hw.below (HSS.out _ hb6) (HSS.out _ hb6)))) | with_reducible refine lXi2 _ ?_ _ (HG.out _ (hb6.trans (hw.below (HSS.out _ hb6) (HSS.out _ hb6)))) | with_reducible refine lScale2 _ ?_ _ ?_ _ (HG.out _ (hb6.trans (hw.below (HSS.out _ hb6) (HSS.out _ hb6)))) | with_reducible refine refRed2 _ ?_ _ | with_reducible refine refAdd2 _ ?_ _ ?_ _ | with_reducible refine refSub2 _ ?_ _ ?_ _ | with_reducible refine refNeg2 _ ?_ _ | with_reducible refine refMul2 _ ?_ _ ?_ _ | with_reducible refine refInv2 _ ?_ _ | with_reducible refine refConj2 _ ?_ _ | with_reducible refine refXi2 _ ?_ _ | with_reducible refine refScale2 _ ?_ _ ?_ _ | with_reducible refine one_c _) <;> (with_reducible first | exact Nm.fe _ | exact Nm.F2 _ | assumption | exact nm_one | exact nm_Z6 | (refine Nm.seg (m := 12) ?_ (by decide); assumption) | exact Nm.seg (m := 12) (Nm.F2 _) (by decide) | exact Nm.app2 (.fe _) (.fe _) | exact nm_two | exact nm_rep | exact nm_Z12 | exact Nm.app2 nm_one nm_one | exact Nm.app2 nm_one nm_rep | exact Nm.app2 nm_rep nm_one | exact Nm.app2 nm_two nm_rep | (refine Nm.app2 ?_ nm_Z6; assumption) | exact Nm.app2 (.fe _) nm_Z6 | exact ⟨rfl, words_of _ (by decide)⟩ | fail))⟩) ?_
    | refine take_skip (by rfl) ?_
    | refine wpTake_cons (Steady.of_yields (Or.inl ⟨by rfl, fun w => (by first | (go_simp; done) | (go_simp; with_reducible rfl))⟩)) ?_); simp only [List.getElem_toArray, List.getElem_cons_zero, List.getElem_cons_succ, Act.put, List.setIfInBounds_toArray, List.set_cons_zero, List.set_cons_succ])
  refine wpTake_nil ?_
  refine wpAnyU_end (by kernel_rfl) (fun w7 hq0 => ?_)
  have hq := (drawn_below w6).trans hq0
  have qa7 := qa6.keep hq
  have qb7 := qb6.keep hq
  have qz7 := qz6.keep hq
  have qi7 := qi6.keep hq
  have qx7 := qx6.keep hq
  have hb7 := hb6.trans (hq.mono (HSS.out _ hb6))
  clear hq0 hq hb6 qa6 qb6 qz6 qi6 qx6
  go_wp2
  refine wp_reads 6 0 w7.heap.size (by kernel_rfl) (by kernel_rfl) (by rfl) (by kernel_rfl) (fun _ _ d _ _ h => by cases d <;> exact h) ?_
  simp only [List.take_succ_cons, List.take_zero]
  repeat ((first
    | refine take_eql_t (by rfl) (by rfl) (by rfl) (by rfl) eqok2 gd2 (Nm.len (n := 12) (by with_reducible first | exact Nm.fe _ | exact Nm.F2 _ | assumption | exact nm_one | exact nm_Z6 | (refine Nm.seg (m := 12) ?_ (by decide); assumption) | exact Nm.seg (m := 12) (Nm.F2 _) (by decide) | exact Nm.app2 (.fe _) (.fe _) | exact nm_two | exact nm_rep | exact nm_Z12 | exact Nm.app2 nm_one nm_one | exact Nm.app2 nm_one nm_rep | exact Nm.app2 nm_rep nm_one | exact Nm.app2 nm_two nm_rep | (refine Nm.app2 ?_ nm_Z6; assumption) | exact Nm.app2 (.fe _) nm_Z6 | exact ⟨rfl, words_of _ (by decide)⟩ | fail)) (Nm.len (n := 12) (by with_reducible first | exact Nm.fe _ | exact Nm.F2 _ | assumption | exact nm_one | exact nm_Z6 | (refine Nm.seg (m := 12) ?_ (by decide); assumption) | exact Nm.seg (m := 12) (Nm.F2 _) (by decide) | exact Nm.app2 (.fe _) (.fe _) | exact nm_two | exact nm_rep | exact nm_Z12 | exact Nm.app2 nm_one nm_one | exact Nm.app2 nm_one nm_rep | exact Nm.app2 nm_rep nm_one | exact Nm.app2 nm_two nm_rep | (refine Nm.app2 ?_ nm_Z6; assumption) | exact Nm.app2 (.fe _) nm_Z6 | exact ⟨rfl, words_of _ (by decide)⟩ | fail)) (by with_reducible first | rfl | exact hm1.out | exact hii.out) ?_
    | refine take_neq_t (by rfl) (by rfl) (by rfl) (by rfl) eqok2 gd2 (Nm.len (n := 12) (by with_reducible first | exact Nm.fe _ | exact Nm.F2 _ | assumption | exact nm_one | exact nm_Z6 | (refine Nm.seg (m := 12) ?_ (by decide); assumption) | exact Nm.seg (m := 12) (Nm.F2 _) (by decide) | exact Nm.app2 (.fe _) (.fe _) | exact nm_two | exact nm_rep | exact nm_Z12 | exact Nm.app2 nm_one nm_one | exact Nm.app2 nm_one nm_rep | exact Nm.app2 nm_rep nm_one | exact Nm.app2 nm_two nm_rep | (refine Nm.app2 ?_ nm_Z6; assumption) | exact Nm.app2 (.fe _) nm_Z6 | exact ⟨rfl, words_of _ (by decide)⟩ | fail)) (Nm.len (n := 12) (by with_reducible first | exact Nm.fe _ | exact Nm.F2 _ | assumption | exact nm_one | exact nm_Z6 | (refine Nm.seg (m := 12) ?_ (by decide); assumption) | exact Nm.seg (m := 12) (Nm.F2 _) (by decide) | exact Nm.app2 (.fe _) (.fe _) | exact nm_two | exact nm_rep | exact nm_Z12 | exact Nm.app2 nm_one nm_one | exact Nm.app2 nm_one nm_rep | exact Nm.app2 nm_rep nm_one | exact Nm.app2 nm_two nm_rep | (refine Nm.app2 ?_ nm_Z6; assumption) | exact Nm.app2 (.fe _) nm_Z6 | exact ⟨rfl, words_of _ (by decide)⟩ | fail)) (by with_reducible first | rfl | exact hm1.out | exact hii.out) ?_
    | refine take_eql_f (by rfl) (by rfl) (by rfl) (by rfl) eqok2 gd2 (Nm.len (n := 12) (by with_reducible first | exact Nm.fe _ | exact Nm.F2 _ | assumption | exact nm_one | exact nm_Z6 | (refine Nm.seg (m := 12) ?_ (by decide); assumption) | exact Nm.seg (m := 12) (Nm.F2 _) (by decide) | exact Nm.app2 (.fe _) (.fe _) | exact nm_two | exact nm_rep | exact nm_Z12 | exact Nm.app2 nm_one nm_one | exact Nm.app2 nm_one nm_rep | exact Nm.app2 nm_rep nm_one | exact Nm.app2 nm_two nm_rep | (refine Nm.app2 ?_ nm_Z6; assumption) | exact Nm.app2 (.fe _) nm_Z6 | exact ⟨rfl, words_of _ (by decide)⟩ | fail)) (Nm.len (n := 12) (by with_reducible first | exact Nm.fe _ | exact Nm.F2 _ | assumption | exact nm_one | exact nm_Z6 | (refine Nm.seg (m := 12) ?_ (by decide); assumption) | exact Nm.seg (m := 12) (Nm.F2 _) (by decide) | exact Nm.app2 (.fe _) (.fe _) | exact nm_two | exact nm_rep | exact nm_Z12 | exact Nm.app2 nm_one nm_one | exact Nm.app2 nm_one nm_rep | exact Nm.app2 nm_rep nm_one | exact Nm.app2 nm_two nm_rep | (refine Nm.app2 ?_ nm_Z6; assumption) | exact Nm.app2 (.fe _) nm_Z6 | exact ⟨rfl, words_of _ (by decide)⟩ | fail)) (by with_reducible first | assumption | exact hx1.out | exact hm2.out | exact hb1_.out) ?_
    | refine take_neq_f (by rfl) (by rfl) (by rfl) (by rfl) eqok2 gd2 (Nm.len (n := 12) (by with_reducible first | exact Nm.fe _ | exact Nm.F2 _ | assumption | exact nm_one | exact nm_Z6 | (refine Nm.seg (m := 12) ?_ (by decide); assumption) | exact Nm.seg (m := 12) (Nm.F2 _) (by decide) | exact Nm.app2 (.fe _) (.fe _) | exact nm_two | exact nm_rep | exact nm_Z12 | exact Nm.app2 nm_one nm_one | exact Nm.app2 nm_one nm_rep | exact Nm.app2 nm_rep nm_one | exact Nm.app2 nm_two nm_rep | (refine Nm.app2 ?_ nm_Z6; assumption) | exact Nm.app2 (.fe _) nm_Z6 | exact ⟨rfl, words_of _ (by decide)⟩ | fail)) (Nm.len (n := 12) (by with_reducible first | exact Nm.fe _ | exact Nm.F2 _ | assumption | exact nm_one | exact nm_Z6 | (refine Nm.seg (m := 12) ?_ (by decide); assumption) | exact Nm.seg (m := 12) (Nm.F2 _) (by decide) | exact Nm.app2 (.fe _) (.fe _) | exact nm_two | exact nm_rep | exact nm_Z12 | exact Nm.app2 nm_one nm_one | exact Nm.app2 nm_one nm_rep | exact Nm.app2 nm_rep nm_one | exact Nm.app2 nm_two nm_rep | (refine Nm.app2 ?_ nm_Z6; assumption) | exact Nm.app2 (.fe _) nm_Z6 | exact ⟨rfl, words_of _ (by decide)⟩ | fail)) (by with_reducible first | assumption | exact hx1.out | exact hm2.out | exact hb1_.out) ?_
    | refine take_load (by rfl) 24 (by rfl) (g := S) (n := 6) (by rfl) (t := 26) (xs := a) (fun w hw => hw.has qa7 (Nat.ne_of_lt qa7.lt)) Tryd.underlying24 rfl (by kernel_rfl) (by rw [ha.len]; decide) ?_
    | refine take_loadw (by rfl) 26 (by rfl) (g := S) (n := 12) (by rfl) (t := 26) (xs := a) (fun w hw => hw.has qa7 (Nat.ne_of_lt qa7.lt)) Tryd.underlying26 rfl (by kernel_rfl) ha.len ?_
    | refine take_load (by rfl) 24 (by rfl) (g := S + 1) (n := 6) (by rfl) (t := 26) (xs := b) (fun w hw => hw.has qb7 (Nat.ne_of_lt qb7.lt)) Tryd.underlying24 rfl (by kernel_rfl) (by rw [hb.len]; decide) ?_
    | refine take_loadw (by rfl) 26 (by rfl) (g := S + 1) (n := 12) (by rfl) (t := 26) (xs := b) (fun w hw => hw.has qb7 (Nat.ne_of_lt qb7.lt)) Tryd.underlying26 rfl (by kernel_rfl) hb.len ?_
    | refine take_load (by rfl) 24 (by rfl) (g := w1.heap.size) (n := 6) (by rfl) (t := 26) (xs := [0, 0, 0, 0, 0, 0, 0, 0, 0, 0, 0, 0]) (fun w hw => hw.has qz7 (Nat.ne_of_lt qz7.lt)) Tryd.underlying24 rfl (by kernel_rfl) (by rw [(show List.length _ = 12 from rfl)]; decide) ?_
    | refine take_loadw (by rfl) 26 (by rfl) (g := w1.heap.size) (n := 12) (by rfl) (t := 26) (xs := [0, 0, 0, 0, 0, 0, 0, 0, 0, 0, 0, 0]) (fun w hw => hw.has qz7 (Nat.ne_of_lt qz7.lt)) Tryd.underlying26 rfl (by kernel_rfl) (show List.length _ = 12 from rfl) ?_
    | refine take_load (by rfl) 24 (by rfl) (g := w3.heap.size) (n := 6) (by rfl) (t := 26) (xs := (F2 (gi (v2 a)))) (fun w hw => hw.has qi7 (Nat.ne_of_lt qi7.lt)) Tryd.underlying24 rfl (by kernel_rfl) (by rw [(Nm.F2 _).len]; decide) ?_
    | refine take_loadw (by rfl) 26 (by rfl) (g := w3.heap.size) (n := 12) (by rfl) (t := 26) (xs := (F2 (gi (v2 a)))) (fun w hw => hw.has qi7 (Nat.ne_of_lt qi7.lt)) Tryd.underlying26 rfl (by kernel_rfl) (Nm.F2 _).len ?_
    | refine take_load (by rfl) 24 (by rfl) (g := w5.heap.size) (n := 6) (by rfl) (t := 26) (xs := (F2 (v2 a))) (fun w hw => hw.has qx7 (Nat.ne_of_lt qx7.lt)) Tryd.underlying24 rfl (by kernel_rfl) (by rw [(Nm.F2 _).len]; decide) ?_
    | refine take_loadw (by rfl) 26 (by rfl) (g := w5.heap.size) (n := 12) (by rfl) (t := 26) (xs := (F2 (v2 a))) (fun w hw => hw.has qx7 (Nat.ne_of_lt qx7.lt)) Tryd.underlying26 rfl (by kernel_rfl) (Nm.F2 _).len ?_
    | refine wpTake_cons (.inl ⟨by rfl, fun w hw => (by unfold Oper.quietAt; go_simp; (first | with_reducible refine lRed2 _ ?_ _ (HG.out _ (hb7.trans (hw.below (HSS.out _ hb7) (HSS.out _ hb7)))) | with_reducible refine lAdd2 _ ?_ _ ?_ _ (HG.out _ (hb7.trans (hw.below (HSS.out _ hb7) (HSS.out _ hb7)))) | with_reducible refine lSub2 _ ?_ _ ?_ _ (HG.out _ (hb7.trans (hw.below (HSS.out _ hb7) (HSS.out _ hb7)))) | with_reducible refine lNeg2 _ ?_ _ (HG.out _ (hb7.trans (hw.below (HSS.out _ hb7) (HSS.out _ hb7)))) | with_reducible refine lMul2 _ ?_ _ ?_ _ (HG.out _ (hb7.trans (hw.below (HSS.out _ hb7) (HSS.out _ hb7)))) | with_reducible refine lInv2 _ ?_ _ (HD.out _ (hb7.trans (hw.below (HSS.out _ hb7) (HSS.out _ hb7)))) | with_reducible refine lConj2 _ ?_ _ (HG.out _ (hb7.trans (hw.below (HSS.out _ hb7) (HSS.out _ hb7)))) | with_reducible refine lXi2 _ ?_ _ (HG.out _ (hb7.trans (hw.below (HSS.out _ hb7) (HSS.out _ hb7)))) | with_reducible refine lScale2 _ ?_ _ ?_ _ (HG.out _ (hb7.trans (hw.below (HSS.out _ hb7) (HSS.out _ hb7)))) | with_reducible refine refRed2 _ ?_ _ | with_reducible refine refAdd2 _ ?_ _ ?_ _ | with_reducible refine refSub2 _ ?_ _ ?_ _ | with_reducible refine refNeg2 _ ?_ _ | with_reducible refine refMul2 _ ?_ _ ?_ _ | with_reducible refine refInv2 _ ?_ _ | with_reducible refine refConj2 _ ?_ _ | with_reducible refine refXi2 _ ?_ _ | with_reducible refine refScale2 _ ?_ _ ?_ _ | with_reducible refine one_c _) <;> (with_reducible first | exact Nm.fe _ | exact Nm.F2 _ | assumption | exact nm_one | exact nm_Z6 | (refine Nm.seg (m := 12) ?_ (by decide); assumption) | exact Nm.seg (m := 12) (Nm.F2 _) (by decide) | exact Nm.app2 (.fe _) (.fe _) | exact nm_two | exact nm_rep | exact nm_Z12 | exact Nm.app2 nm_one nm_one | exact Nm.app2 nm_one nm_rep | exact Nm.app2 nm_rep nm_one | exact Nm.app2 nm_two nm_rep | (refine Nm.app2 ?_ nm_Z6; assumption) | exact Nm.app2 (.fe _) nm_Z6 | exact ⟨rfl, words_of _ (by decide)⟩ | fail))⟩) ?_
    | refine take_skip (by rfl) ?_
    | refine wpTake_cons (Steady.of_yields (Or.inl ⟨by rfl, fun w => (by first | (go_simp; done) | (go_simp; with_reducible rfl))⟩)) ?_); simp only [List.getElem_toArray, List.getElem_cons_zero, List.getElem_cons_succ, Act.put, List.setIfInBounds_toArray, List.set_cons_zero, List.set_cons_succ])
  refine wpTake_nil ?_
  refine wpAnyU_end (by kernel_rfl) (fun w8 hq0 => ?_)
  have hq := (drawn_below w7).trans hq0
  have qa8 := qa7.keep hq
  have qb8 := qb7.keep hq
  have qz8 := qz7.keep hq
  have qi8 := qi7.keep hq
  have qx8 := qx7.keep hq
  have hb8 := hb7.trans (hq.mono (HSS.out _ hb7))
  clear hq0 hq hb7 qa7 qb7 qz7 qi7 qx7
  go_wp2
  refine wp_reads 18 0 w8.heap.size (by kernel_rfl) (by kernel_rfl) (by rfl) (by kernel_rfl) (fun _ _ d _ _ h => by cases d <;> exact h) ?_
  simp only [List.take_succ_cons, List.take_zero]
  repeat ((first
    | refine take_eql_t (by rfl) (by rfl) (by rfl) (by rfl) eqok2 gd2 (Nm.len (n := 12) (by with_reducible first | exact Nm.fe _ | exact Nm.F2 _ | assumption | exact nm_one | exact nm_Z6 | (refine Nm.seg (m := 12) ?_ (by decide); assumption) | exact Nm.seg (m := 12) (Nm.F2 _) (by decide) | exact Nm.app2 (.fe _) (.fe _) | exact nm_two | exact nm_rep | exact nm_Z12 | exact Nm.app2 nm_one nm_one | exact Nm.app2 nm_one nm_rep | exact Nm.app2 nm_rep nm_one | exact Nm.app2 nm_two nm_rep | (refine Nm.app2 ?_ nm_Z6; assumption) | exact Nm.app2 (.fe _) nm_Z6 | exact ⟨rfl, words_of _ (by decide)⟩ | fail)) (Nm.len (n := 12) (by with_reducible first | exact Nm.fe _ | exact Nm.F2 _ | assumption | exact nm_one | exact nm_Z6 | (refine Nm.seg (m := 12) ?_ (by decide); assumption) | exact Nm.seg (m := 12) (Nm.F2 _) (by decide) | exact Nm.app2 (.fe _) (.fe _) | exact nm_two | exact nm_rep | exact nm_Z12 | exact Nm.app2 nm_one nm_one | exact Nm.app2 nm_one nm_rep | exact Nm.app2 nm_rep nm_one | exact Nm.app2 nm_two nm_rep | (refine Nm.app2 ?_ nm_Z6; assumption) | exact Nm.app2 (.fe _) nm_Z6 | exact ⟨rfl, words_of _ (by decide)⟩ | fail)) (by with_reducible first | rfl | exact hm1.out | exact hii.out) ?_
    | refine take_neq_t (by rfl) (by rfl) (by rfl) (by rfl) eqok2 gd2 (Nm.len (n := 12) (by with_reducible first | exact Nm.fe _ | exact Nm.F2 _ | assumption | exact nm_one | exact nm_Z6 | (refine Nm.seg (m := 12) ?_ (by decide); assumption) | exact Nm.seg (m := 12) (Nm.F2 _) (by decide) | exact Nm.app2 (.fe _) (.fe _) | exact nm_two | exact nm_rep | exact nm_Z12 | exact Nm.app2 nm_one nm_one | exact Nm.app2 nm_one nm_rep | exact Nm.app2 nm_rep nm_one | exact Nm.app2 nm_two nm_rep | (refine Nm.app2 ?_ nm_Z6; assumption) | exact Nm.app2 (.fe _) nm_Z6 | exact ⟨rfl, words_of _ (by decide)⟩ | fail)) (Nm.len (n := 12) (by with_reducible first | exact Nm.fe _ | exact Nm.F2 _ | assumption | exact nm_one | exact nm_Z6 | (refine Nm.seg (m := 12) ?_ (by decide); assumption) | exact Nm.seg (m := 12) (Nm.F2 _) (by decide) | exact Nm.app2 (.fe _) (.fe _) | exact nm_two | exact nm_rep | exact nm_Z12 | exact Nm.app2 nm_one nm_one | exact Nm.app2 nm_one nm_rep | exact Nm.app2 nm_rep nm_one | exact Nm.app2 nm_two nm_rep | (refine Nm.app2 ?_ nm_Z6; assumption) | exact Nm.app2 (.fe _) nm_Z6 | exact ⟨rfl, words_of _ (by decide)⟩ | fail)) (by with_reducible first | rfl | exact hm1.out | exact hii.out) ?_
    | refine take_eql_f (by rfl) (by rfl) (by rfl) (by rfl) eqok2 gd2 (Nm.len (n := 12) (by with_reducible first | exact Nm.fe _ | exact Nm.F2 _ | assumption | exact nm_one | exact nm_Z6 | (refine Nm.seg (m := 12) ?_ (by decide); assumption) | exact Nm.seg (m := 12) (Nm.F2 _) (by decide) | exact Nm.app2 (.fe _) (.fe _) | exact nm_two | exact nm_rep | exact nm_Z12 | exact Nm.app2 nm_one nm_one | exact Nm.app2 nm_one nm_rep | exact Nm.app2 nm_rep nm_one | exact Nm.app2 nm_two nm_rep | (refine Nm.app2 ?_ nm_Z6; assumption) | exact Nm.app2 (.fe _) nm_Z6 | exact ⟨rfl, words_of _ (by decide)⟩ | fail)) (Nm.len (n := 12) (by with_reducible first | exact Nm.fe _ | exact Nm.F2 _ | assumption | exact nm_one | exact nm_Z6 | (refine Nm.seg (m := 12) ?_ (by decide); assumption) | exact Nm.seg (m := 12) (Nm.F2 _) (by decide) | exact Nm.app2 (.fe _) (.fe _) | exact nm_two | exact nm_rep | exact nm_Z12 | exact Nm.app2 nm_one nm_one | exact Nm.app2 nm_one nm_rep | exact Nm.app2 nm_rep nm_one | exact Nm.app2 nm_two nm_rep | (refine Nm.app2 ?_ nm_Z6; assumption) | exact Nm.app2 (.fe _) nm_Z6 | exact ⟨rfl, words_of _ (by decide)⟩ | fail)) (by with_reducible first | assumption | exact hx1.out | exact hm2.out | exact hb1_.out) ?_
    | refine take_neq_f (by rfl) (by rfl) (by rfl) (by rfl) eqok2 gd2 (Nm.len (n := 12) (by with_reducible first | exact Nm.fe _ | exact Nm.F2 _ | assumption | exact nm_one | exact nm_Z6 | (refine Nm.seg (m := 12) ?_ (by decide); assumption) | exact Nm.seg (m := 12) (Nm.F2 _) (by decide) | exact Nm.app2 (.fe _) (.fe _) | exact nm_two | exact nm_rep | exact nm_Z12 | exact Nm.app2 nm_one nm_one | exact Nm.app2 nm_one nm_rep | exact Nm.app2 nm_rep nm_one | exact Nm.app2 nm_two nm_rep | (refine Nm.app2 ?_ nm_Z6; assumption) | exact Nm.app2 (.fe _) nm_Z6 | exact ⟨rfl, words_of _ (by decide)⟩ | fail)) (Nm.len (n := 12) (by with_reducible first | exact Nm.fe _ | exact Nm.F2 _ | assumption | exact nm_one | exact nm_Z6 | (refine Nm.seg (m := 12) ?_ (by decide); assumption) | exact Nm.seg (m := 12) (Nm.F2 _) (by decide) | exact Nm.app2 (.fe _) (.fe _) | exact nm_two | exact nm_rep | exact nm_Z12 | exact Nm.app2 nm_one nm_one | exact Nm.app2 nm_one nm_rep | exact Nm.app2 nm_rep nm_one | exact Nm.app2 nm_two nm_rep | (refine Nm.app2 ?_ nm_Z6; assumption) | exact Nm.app2 (.fe _) nm_Z6 | exact ⟨rfl, words_of _ (by decide)⟩ | fail)) (by with_reducible first | assumption | exact hx1.out | exact hm2.out | exact hb1_.out) ?_
    | refine take_load (by rfl) 24 (by rfl) (g := S) (n := 6) (by rfl) (t := 26) (xs := a) (fun w hw => hw.has qa8 (Nat.ne_of_lt qa8.lt)) Tryd.underlying24 rfl (by kernel_rfl) (by rw [ha.len]; decide) ?_
    | refine take_loadw (by rfl) 26 (by rfl) (g := S) (n := 12) (by rfl) (t := 26) (xs := a) (fun w hw => hw.has qa8 (Nat.ne_of_lt qa8.lt)) Tryd.underlying26 rfl (by kernel_rfl) ha.len ?_
    | refine take_load (by rfl) 24 (by rfl) (g := S + 1) (n := 6) (by rfl) (t := 26) (xs := b) (fun w hw => hw.has qb8 (Nat.ne_of_lt qb8.lt)) Tryd.underlying24 rfl (by kernel_rfl) (by rw [hb.len]; decide) ?_
    | refine take_loadw (by rfl) 26 (by rfl) (g := S + 1) (n := 12) (by rfl) (t := 26) (xs := b) (fun w hw => hw.has qb8 (Nat.ne_of_lt qb8.lt)) Tryd.underlying26 rfl (by kernel_rfl) hb.len ?_
    | refine take_load (by rfl) 24 (by rfl) (g := w1.heap.size) (n := 6) (by rfl) (t := 26) (xs := [0, 0, 0, 0, 0, 0, 0, 0, 0, 0, 0, 0]) (fun w hw => hw.has qz8 (Nat.ne_of_lt qz8.lt)) Tryd.underlying24 rfl (by kernel_rfl) (by rw [(show List.length _ = 12 from rfl)]; decide) ?_
    | refine take_loadw (by rfl) 26 (by rfl) (g := w1.heap.size) (n := 12) (by rfl) (t := 26) (xs := [0, 0, 0, 0, 0, 0, 0, 0, 0, 0, 0, 0]) (fun w hw => hw.has qz8 (Nat.ne_of_lt qz8.lt)) Tryd.underlying26 rfl (by kernel_rfl) (show List.length _ = 12 from rfl) ?_
    | refine take_load (by rfl) 24 (by rfl) (g := w3.heap.size) (n := 6) (by rfl) (t := 26) (xs := (F2 (gi (v2 a)))) (fun w hw => hw.has qi8 (Nat.ne_of_lt qi8.lt)) Tryd.underlying24 rfl (by kernel_rfl) (by rw [(Nm.F2 _).len]; decide) ?_
    | refine take_loadw (by rfl) 26 (by rfl) (g := w3.heap.size) (n := 12) (by rfl) (t := 26) (xs := (F2 (gi (v2 a)))) (fun w hw => hw.has qi8 (Nat.ne_of_lt qi8.lt)) Tryd.underlying26 rfl (by kernel_rfl) (Nm.F2 _).len ?_
    | refine take_load (by rfl) 24 (by rfl) (g := w5.heap.size) (n := 6) (by rfl) (t := 26) (xs := (F2 (v2 a))) (fun w hw => hw.has qx8 (Nat.ne_of_lt qx8.lt)) Tryd.underlying24 rfl (by kernel_rfl) (by rw [(Nm.F2 _).len]; decide) ?_
    | refine take_loadw (by rfl) 26 (by rfl) (g := w5.heap.size) (n := 12) (by rfl) (t := 26) (xs := (F2 (v2 a))) (fun w hw => hw.has qx8 (Nat.ne_of_lt qx8.lt)) Tryd.underlying26 rfl (by kernel_rfl) (Nm.F2 _).len ?_
    | refine wpTake_cons (.inl ⟨by rfl, fun w hw => (by unfold Oper.quietAt; go_simp; (first | with_reducible refine lRed2 _ ?_ _ (HG.out _ (hb8.trans (hw.below (HSS.out _ hb8) (HSS.out _ hb8)))) | with_reducible refine lAdd2 _ ?_ _ ?_ _ (HG.out _ (hb8.trans (hw.below (HSS.out _ hb8) (HSS.out _ hb8)))) | with_reducible refine lSub2 _ ?_ _ ?_ _ (HG.out _ (hb8.trans (hw.below (HSS.out _ hb8) (HSS.out _ hb8)))) | with_reducible refine lNeg2 _ ?_ _ (HG.out _ (hb8.trans (hw.below (HSS.out _ hb8) (HSS.out _ hb8)))) | with_reducible refine lMul2 _ ?_ _ ?_ _ (HG.out _ (hb8.trans (hw.below (HSS.out _ hb8) (HSS.out _ hb8)))) | with_reducible refine lInv2 _ ?_ _ (HD.out _ (hb8.trans (hw.below (HSS.out _ hb8) (HSS.out _ hb8)))) | with_reducible refine lConj2 _ ?_ _ (HG.out _ (hb8.trans (hw.below (HSS.out _ hb8) (HSS.out _ hb8)))) | with_reducible refine lXi2 _ ?_ _ (HG.out _ (hb8.trans (hw.below (HSS.out _ hb8) (HSS.out _ hb8)))) | with_reducible refine lScale2 _ ?_ _ ?_ _ (HG.out _ (hb8.trans (hw.below (HSS.out _ hb8) (HSS.out _ hb8)))) | with_reducible refine refRed2 _ ?_ _ | with_reducible refine refAdd2 _ ?_ _ ?_ _ | with_reducible refine refSub2 _ ?_ _ ?_ _ | with_reducible refine refNeg2 _ ?_ _ | with_reducible refine refMul2 _ ?_ _ ?_ _ | with_reducible refine refInv2 _ ?_ _ | with_reducible refine refConj2 _ ?_ _ | with_reducible refine refXi2 _ ?_ _ | with_reducible refine refScale2 _ ?_ _ ?_ _ | with_reducible refine one_c _) <;> (with_reducible first | exact Nm.fe _ | exact Nm.F2 _ | assumption | exact nm_one | exact nm_Z6 | (refine Nm.seg (m := 12) ?_ (by decide); assumption) | exact Nm.seg (m := 12) (Nm.F2 _) (by decide) | exact Nm.app2 (.fe _) (.fe _) | exact nm_two | exact nm_rep | exact nm_Z12 | exact Nm.app2 nm_one nm_one | exact Nm.app2 nm_one nm_rep | exact Nm.app2 nm_rep nm_one | exact Nm.app2 nm_two nm_rep | (refine Nm.app2 ?_ nm_Z6; assumption) | exact Nm.app2 (.fe _) nm_Z6 | exact ⟨rfl, words_of _ (by decide)⟩ | fail))⟩) ?_
    | refine take_skip (by rfl) ?_
    | refine wpTake_cons (Steady.of_yields (Or.inl ⟨by rfl, fun w => (by first | (go_simp; done) | (go_simp; with_reducible rfl))⟩)) ?_); simp only [List.getElem_toArray, List.getElem_cons_zero, List.getElem_cons_succ, Act.put, List.setIfInBounds_toArray, List.set_cons_zero, List.set_cons_succ])
  refine wpTake_nil ?_
  refine wpAnyU_end (by kernel_rfl) (fun w9 hq0 => ?_)
  have hq := (drawn_below w8).trans hq0
  have qa9 := qa8.keep hq
  have qb9 := qb8.keep hq
  have qz9 := qz8.keep hq
  have qi9 := qi8.keep hq
  have qx9 := qx8.keep hq
  have hb9 := hb8.trans (hq.mono (HSS.out _ hb8))
  clear hq0 hq hb8 qa8 qb8 qz8 qi8 qx8
  go_wp2
  go_ret
  exact ⟨rfl, hb9⟩

set_option maxRecDepth 100000 in
set_option maxHeartbeats 4000000 in
theorem inverse_w (a : List Int) (ha : Nm 12 a) (b : List Int) (hb : Nm 12 b) (w : World) (hG : GlobD w) : Calls Tryd.prog 7 #[.agg (vals .u64 a), .agg (vals .u64 b)] w fun e w' => e = .returned (.bool true) ∧ Below w.heap.size w w' := by
  by_cases hz : Z2 (v2 a)
  · exact inverse_zero a ha b hb w hG hz
  · by_cases hy : Z2 (v2 b)
    · exact inverse_b0 a ha b hb w hG hz hy
    · exact inverse_b1 a ha b hb w hG hz hy

end Go.Proofs.YtdldebceailgdaaDoor.Fp2
