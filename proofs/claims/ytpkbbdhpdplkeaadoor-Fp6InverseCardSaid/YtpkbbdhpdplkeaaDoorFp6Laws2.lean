/-
  Own text. The walks of layer 9's statements: inverses.
-/
import Derived.Test.YtpkbbdhpdplkeaaDoorFp6Awake
namespace Go.Proofs.YtpkbbdhpdplkeaaDoor.Fp6
set_option linter.unusedVariables false
set_option linter.unusedSimpArgs false
open Go Go.RowKit Go.Proofs.YtpkbbdhpdplkeaaDoor.Reg Go.Proofs.YtpkbbdhpdplkeaaDoor.Base Go.Proofs.YtpkbbdhpdplkeaaDoor.Limb Go.Proofs.YtpkbbdhpdplkeaaDoor.Fp Go.Proofs.YtpkbbdhpdplkeaaDoor.Fp2

set_option maxRecDepth 100000 in
set_option maxHeartbeats 4000000 in
theorem inverse_zero (a : List Int) (ha : Nm 36 a) (b : List Int) (hb : Nm 36 b) (w : World) (hG : GlobD w) (hz : Fp6.Z6 (v6 a)) : Calls Tryd.prog 6 #[.agg (vals .u64 a), .agg (vals .u64 b)] w fun e w' => e = .returned (.bool true) ∧ Below w.heap.size w w' := by
  have hx0 : Keep (F6 (v6 a) = N36d) := ⟨(Fz _).2 hz⟩
  have hi0 : Keep (F6 (Fp6.hi (v6 a)) = N36d) := ⟨(Fz _).2 (Fp6.hi_zero hz)⟩
  have hm0 : Keep (F6 (Fp6.hm (v6 a) (v6 b)) = N36d) := ⟨(Fz _).2 (Fp6.hm_zl hz)⟩
  obtain ⟨S, hS⟩ : ∃ S, w.heap.size = S := ⟨_, rfl⟩
  have qa0 : Has ((w.alloc (.cells (vals .u64 a) 28)).alloc (.cells (vals .u64 b) 28)) (S) 28 (vals .u64 a) := ((Has.new' _ hS.symm _ _).alloc _)
  have qb0 : Has ((w.alloc (.cells (vals .u64 a) 28)).alloc (.cells (vals .u64 b) 28)) (S + 1) 28 (vals .u64 b) := (Has.new' _ (by simp only [World.size_alloc, hS]) _ _)
  have hb0 : Below S w ((w.alloc (.cells (vals .u64 a) 28)).alloc (.cells (vals .u64 b) 28)) := by rw [← hS]; exact (((Below.refl _ _).alloc (Nat.le_refl _) _).alloc (by simp <;> omega) _)
  have hsz0 : ((w.alloc (.cells (vals .u64 a) 28)).alloc (.cells (vals .u64 b) 28)).heap.size = S + 2 := by simp only [World.size_alloc, hS]
  have HSS : Keep (∀ x : World, Below S w x → S ≤ x.heap.size) := ⟨fun x hb => Nat.le_trans (by omega) hb.size⟩
  have HD : Keep (∀ x : World, Below S w x → GlobD x) := ⟨fun x hb => hG.keep (by rw [hS]; exact hb)⟩
  have HG : Keep (∀ x : World, Below S w x → Glob x) := ⟨fun x hb => (HD.out x hb).toGlob⟩
  clear hG
  clear hz
  rw [hS]
  go_enter Tryd.func6, Tryd.ntmps6
  go_wp2_with (first
    | (refine store_abs2 (by rfl) 28 (.tmp 8) (.tmp 16) (by rfl) (by rfl) (w5.heap.size) (vals .u64 (F6 (v6 a))) (by rfl) (by rfl) 28 (vals .u64 Fp6.Z36) (Has.new' _ rfl _ _) (by rw [vals_size, (Nm.F6 _).len]; kernel_rfl) (by first | (rw [vals_size, vals_size, (Nm.F6 _).len]; rfl) | rfl) vals_one ?_
       intro w6 qx6 hkeep hbg
       have hbe := ((Below.refl w5.heap.size w5).alloc (Nat.le_refl _) (.cells (vals .u64 Fp6.Z36) 28)).trans hbg
       have Nax := qa5.lt
       have qa6 := qa5.keep hbe
       have Nbx := qb5.lt
       have qb6 := qb5.keep hbe
       have Nzx := qz5.lt
       have qz6 := qz5.keep hbe
       have Nix := qi5.lt
       have qi6 := qi5.keep hbe
       have Mx : S ≤ w5.heap.size := HSS.out _ hb5
       have hb6 := hb5.trans (hbe.mono (HSS.out _ hb5))
       clear hkeep hbg hbe hb5 qa5 qb5 qz5 qi5)
    | (have hq0 := hb4
       clear hq0
       go_at_call 10
       refine (lRed6 a ha _ (HG.out _ hb4)).mono ?_
       rintro e w5 ⟨rfl, hq⟩
       have qa5 := qa4.keep hq
       have qb5 := qb4.keep hq
       have qz5 := qz4.keep hq
       have qi5 := qi4.keep hq
       have hb5 := hb4.trans (hq.mono (HSS.out _ hb4))
       clear hq hb4 qa4 qb4 qz4 qi4)
    | (refine wpList_load_row rfl 28 (.tmp 2) rfl (S) rfl _ _ _ _ qa4.eq Tryd.underlying28 rfl (by rw [vals_size, ha.len]; kernel_rfl) ?_)
    | (refine store_abs2 (by rfl) 28 (.tmp 7) (.tmp 14) (by rfl) (by rfl) (w3.heap.size) (vals .u64 (F6 (Fp6.hi (v6 a)))) (by rfl) (by rfl) 28 (vals .u64 Fp6.Z36) (Has.new' _ rfl _ _) (by rw [vals_size, (Nm.F6 _).len]; kernel_rfl) (by first | (rw [vals_size, vals_size, (Nm.F6 _).len]; rfl) | rfl) vals_one ?_
       intro w4 qi4 hkeep hbg
       have hbe := ((Below.refl w3.heap.size w3).alloc (Nat.le_refl _) (.cells (vals .u64 Fp6.Z36) 28)).trans hbg
       have Nai := qa3.lt
       have qa4 := qa3.keep hbe
       have Nbi := qb3.lt
       have qb4 := qb3.keep hbe
       have Nzi := qz3.lt
       have qz4 := qz3.keep hbe
       have Mi : S ≤ w3.heap.size := HSS.out _ hb3
       have hb4 := hb3.trans (hbe.mono (HSS.out _ hb3))
       clear hkeep hbg hbe hb3 qa3 qb3 qz3)
    | (have hq0 := hb2
       clear hq0
       go_at_call 22
       refine (lInv6 a ha _ (HD.out _ hb2)).mono ?_
       rintro e w3 ⟨rfl, hq⟩
       have qa3 := qa2.keep hq
       have qb3 := qb2.keep hq
       have qz3 := qz2.keep hq
       have hb3 := hb2.trans (hq.mono (HSS.out _ hb2))
       clear hq hb2 qa2 qb2 qz2)
    | (refine wpList_load_row rfl 28 (.tmp 2) rfl (S) rfl _ _ _ _ qa2.eq Tryd.underlying28 rfl (by rw [vals_size, ha.len]; kernel_rfl) ?_)
    | (refine store_abs2 (by rfl) 28 (.tmp 6) (.tmp 12) (by rfl) (by rfl) (w1.heap.size) (vals .u64 N36d) (by rfl) (by rfl) 28 (vals .u64 Fp6.Z36) (Has.new' _ rfl _ _) (by rw [vals_size, (show List.length N36d = 36 from rfl)]; kernel_rfl) (by first | (rw [vals_size, vals_size, (show List.length N36d = 36 from rfl)]; rfl) | rfl) vals_one ?_
       intro w2 qz2 hkeep hbg
       have hbe := ((Below.refl w1.heap.size w1).alloc (Nat.le_refl _) (.cells (vals .u64 Fp6.Z36) 28)).trans hbg
       have Naz := qa1.lt
       have qa2 := qa1.keep hbe
       have Nbz := qb1.lt
       have qb2 := qb1.keep hbe
       have Mz : S ≤ w1.heap.size := HSS.out _ hb1
       have hb2 := hb1.trans (hbe.mono (HSS.out _ hb1))
       clear hkeep hbg hbe hb1 qa1 qb1)
    | (refine wpList_buildTo (by rfl) 28 #[] (by rfl) (some 12) (by rfl) (vals .u64 N36d) (by kernel_rfl) ?_)
    | (have hq0 := hb0
       clear hq0
       go_at_call 9
       refine (awake_c _ (HD.out _ hb0)).mono ?_
       rintro e w1 ⟨rfl, hq⟩
       have qa1 := qa0.keep hq
       have qb1 := qb0.keep hq
       have hb1 := hb0.trans (hq.mono (HSS.out _ hb0))
       clear hq hb0 qa0 qb0))
  refine wp_reads 27 0 w6.heap.size (by kernel_rfl) (by kernel_rfl) (by rfl) (by kernel_rfl) (fun _ _ d _ _ h => by cases d <;> exact h) ?_
  simp only [List.take_succ_cons, List.take_zero]
  repeat ((first
    | refine take_eql_t (by rfl) (by rfl) (by rfl) (by rfl) eqokh gdh (Nm.len (n := 36) (by with_reducible first | exact Nm.F2 _ | exact Nm.F6 _ | assumption | exact nm_N36d | exact nm_Z36 | exact nm_O36l | exact nm_V36d | exact nm_C36d | exact nm_X36d | (refine Nm.seg (m := 36) ?_ (by decide); assumption) | exact Nm.seg (m := 36) (Nm.F6 _) (by decide) | exact Nm.app3 (.F2 _) (.F2 _) (.F2 _) | fail)) (Nm.len (n := 36) (by with_reducible first | exact Nm.F2 _ | exact Nm.F6 _ | assumption | exact nm_N36d | exact nm_Z36 | exact nm_O36l | exact nm_V36d | exact nm_C36d | exact nm_X36d | (refine Nm.seg (m := 36) ?_ (by decide); assumption) | exact Nm.seg (m := 36) (Nm.F6 _) (by decide) | exact Nm.app3 (.F2 _) (.F2 _) (.F2 _) | fail)) (by with_reducible first | rfl | exact hx0.out | exact hi0.out | exact hm0.out) ?_
    | refine take_neq_t (by rfl) (by rfl) (by rfl) (by rfl) eqokh gdh (Nm.len (n := 36) (by with_reducible first | exact Nm.F2 _ | exact Nm.F6 _ | assumption | exact nm_N36d | exact nm_Z36 | exact nm_O36l | exact nm_V36d | exact nm_C36d | exact nm_X36d | (refine Nm.seg (m := 36) ?_ (by decide); assumption) | exact Nm.seg (m := 36) (Nm.F6 _) (by decide) | exact Nm.app3 (.F2 _) (.F2 _) (.F2 _) | fail)) (Nm.len (n := 36) (by with_reducible first | exact Nm.F2 _ | exact Nm.F6 _ | assumption | exact nm_N36d | exact nm_Z36 | exact nm_O36l | exact nm_V36d | exact nm_C36d | exact nm_X36d | (refine Nm.seg (m := 36) ?_ (by decide); assumption) | exact Nm.seg (m := 36) (Nm.F6 _) (by decide) | exact Nm.app3 (.F2 _) (.F2 _) (.F2 _) | fail)) (by with_reducible first | rfl | exact hx0.out | exact hi0.out | exact hm0.out) ?_
    | refine take_eql_f (by rfl) (by rfl) (by rfl) (by rfl) eqokh gdh (Nm.len (n := 36) (by with_reducible first | exact Nm.F2 _ | exact Nm.F6 _ | assumption | exact nm_N36d | exact nm_Z36 | exact nm_O36l | exact nm_V36d | exact nm_C36d | exact nm_X36d | (refine Nm.seg (m := 36) ?_ (by decide); assumption) | exact Nm.seg (m := 36) (Nm.F6 _) (by decide) | exact Nm.app3 (.F2 _) (.F2 _) (.F2 _) | fail)) (Nm.len (n := 36) (by with_reducible first | exact Nm.F2 _ | exact Nm.F6 _ | assumption | exact nm_N36d | exact nm_Z36 | exact nm_O36l | exact nm_V36d | exact nm_C36d | exact nm_X36d | (refine Nm.seg (m := 36) ?_ (by decide); assumption) | exact Nm.seg (m := 36) (Nm.F6 _) (by decide) | exact Nm.app3 (.F2 _) (.F2 _) (.F2 _) | fail)) (by with_reducible first | assumption) ?_
    | refine take_neq_f (by rfl) (by rfl) (by rfl) (by rfl) eqokh gdh (Nm.len (n := 36) (by with_reducible first | exact Nm.F2 _ | exact Nm.F6 _ | assumption | exact nm_N36d | exact nm_Z36 | exact nm_O36l | exact nm_V36d | exact nm_C36d | exact nm_X36d | (refine Nm.seg (m := 36) ?_ (by decide); assumption) | exact Nm.seg (m := 36) (Nm.F6 _) (by decide) | exact Nm.app3 (.F2 _) (.F2 _) (.F2 _) | fail)) (Nm.len (n := 36) (by with_reducible first | exact Nm.F2 _ | exact Nm.F6 _ | assumption | exact nm_N36d | exact nm_Z36 | exact nm_O36l | exact nm_V36d | exact nm_C36d | exact nm_X36d | (refine Nm.seg (m := 36) ?_ (by decide); assumption) | exact Nm.seg (m := 36) (Nm.F6 _) (by decide) | exact Nm.app3 (.F2 _) (.F2 _) (.F2 _) | fail)) (by with_reducible first | assumption) ?_
    | refine take_load (by rfl) 26 (by rfl) (g := S) (n := 12) (by rfl) (t := 28) (xs := a) (fun w hw => hw.has qa6 (Nat.ne_of_lt qa6.lt)) Tryd.underlying26 rfl (by kernel_rfl) (by rw [ha.len]; decide) ?_
    | refine take_loadw (by rfl) 28 (by rfl) (g := S) (n := 36) (by rfl) (t := 28) (xs := a) (fun w hw => hw.has qa6 (Nat.ne_of_lt qa6.lt)) Tryd.underlying28 rfl (by kernel_rfl) ha.len ?_
    | refine take_load (by rfl) 26 (by rfl) (g := S + 1) (n := 12) (by rfl) (t := 28) (xs := b) (fun w hw => hw.has qb6 (Nat.ne_of_lt qb6.lt)) Tryd.underlying26 rfl (by kernel_rfl) (by rw [hb.len]; decide) ?_
    | refine take_loadw (by rfl) 28 (by rfl) (g := S + 1) (n := 36) (by rfl) (t := 28) (xs := b) (fun w hw => hw.has qb6 (Nat.ne_of_lt qb6.lt)) Tryd.underlying28 rfl (by kernel_rfl) hb.len ?_
    | refine take_load (by rfl) 26 (by rfl) (g := w1.heap.size) (n := 12) (by rfl) (t := 28) (xs := N36d) (fun w hw => hw.has qz6 (Nat.ne_of_lt qz6.lt)) Tryd.underlying26 rfl (by kernel_rfl) (by rw [(show List.length N36d = 36 from rfl)]; decide) ?_
    | refine take_loadw (by rfl) 28 (by rfl) (g := w1.heap.size) (n := 36) (by rfl) (t := 28) (xs := N36d) (fun w hw => hw.has qz6 (Nat.ne_of_lt qz6.lt)) Tryd.underlying28 rfl (by kernel_rfl) (show List.length N36d = 36 from rfl) ?_
    | refine take_load (by rfl) 26 (by rfl) (g := w3.heap.size) (n := 12) (by rfl) (t := 28) (xs := (F6 (Fp6.hi (v6 a)))) (fun w hw => hw.has qi6 (Nat.ne_of_lt qi6.lt)) Tryd.underlying26 rfl (by kernel_rfl) (by rw [(Nm.F6 _).len]; decide) ?_
    | refine take_loadw (by rfl) 28 (by rfl) (g := w3.heap.size) (n := 36) (by rfl) (t := 28) (xs := (F6 (Fp6.hi (v6 a)))) (fun w hw => hw.has qi6 (Nat.ne_of_lt qi6.lt)) Tryd.underlying28 rfl (by kernel_rfl) (Nm.F6 _).len ?_
    | refine take_load (by rfl) 26 (by rfl) (g := w5.heap.size) (n := 12) (by rfl) (t := 28) (xs := (F6 (v6 a))) (fun w hw => hw.has qx6 (Nat.ne_of_lt qx6.lt)) Tryd.underlying26 rfl (by kernel_rfl) (by rw [(Nm.F6 _).len]; decide) ?_
    | refine take_loadw (by rfl) 28 (by rfl) (g := w5.heap.size) (n := 36) (by rfl) (t := 28) (xs := (F6 (v6 a))) (fun w hw => hw.has qx6 (Nat.ne_of_lt qx6.lt)) Tryd.underlying28 rfl (by kernel_rfl) (Nm.F6 _).len ?_
    | refine wpTake_cons (.inl ⟨by rfl, fun w hw => (by unfold Oper.quietAt; go_simp; (first | with_reducible refine lRed6 _ ?_ _ (HG.out _ (hb6.trans (hw.below (HSS.out _ hb6) (HSS.out _ hb6)))) | with_reducible refine lAdd6 _ ?_ _ ?_ _ (HG.out _ (hb6.trans (hw.below (HSS.out _ hb6) (HSS.out _ hb6)))) | with_reducible refine lSub6 _ ?_ _ ?_ _ (HG.out _ (hb6.trans (hw.below (HSS.out _ hb6) (HSS.out _ hb6)))) | with_reducible refine lNeg6 _ ?_ _ (HG.out _ (hb6.trans (hw.below (HSS.out _ hb6) (HSS.out _ hb6)))) | with_reducible refine lMul6 _ ?_ _ ?_ _ (HG.out _ (hb6.trans (hw.below (HSS.out _ hb6) (HSS.out _ hb6)))) | with_reducible refine lInv6 _ ?_ _ (HD.out _ (hb6.trans (hw.below (HSS.out _ hb6) (HSS.out _ hb6)))) | with_reducible refine lScale6 _ ?_ _ ?_ _ (HG.out _ (hb6.trans (hw.below (HSS.out _ hb6) (HSS.out _ hb6)))) | with_reducible refine lV6 _ ?_ _ (HG.out _ (hb6.trans (hw.below (HSS.out _ hb6) (HSS.out _ hb6)))) | with_reducible refine one_c _) <;> (with_reducible first | exact Nm.F2 _ | exact Nm.F6 _ | assumption | exact nm_N36d | exact nm_Z36 | exact nm_O36l | exact nm_V36d | exact nm_C36d | exact nm_X36d | (refine Nm.seg (m := 36) ?_ (by decide); assumption) | exact Nm.seg (m := 36) (Nm.F6 _) (by decide) | exact Nm.app3 (.F2 _) (.F2 _) (.F2 _) | fail))⟩) ?_
    | refine take_skip (by rfl) ?_
    | refine wpTake_cons (Steady.of_yields (Or.inl ⟨by rfl, fun w => (by first | (go_simp; done) | (go_simp; with_reducible rfl))⟩)) ?_); simp only [List.getElem_toArray, List.getElem_cons_zero, List.getElem_cons_succ, Act.put, List.setIfInBounds_toArray, List.set_cons_zero, List.set_cons_succ])
  refine wpTake_nil ?_
  refine wpAnyU_end (by kernel_rfl) (fun w7 hq0 => ?_)
  have hq := (drawn_below w6).trans hq0
  have qa7 := qa6.keep hq
  have qb7 := qb6.keep hq
  have qz7 := qz6.keep hq
  have qi7 := qi6.keep hq
  have qx7 := qx6.keep hq
  have hb7 := hb6.trans (hq.mono (HSS.out _ hb6))
  clear hq0 hq hb6 qa6 qb6 qz6 qi6 qx6
  go_wp2
  refine wp_reads 6 0 w7.heap.size (by kernel_rfl) (by kernel_rfl) (by rfl) (by kernel_rfl) (fun _ _ d _ _ h => by cases d <;> exact h) ?_
  simp only [List.take_succ_cons, List.take_zero]
  repeat ((first
    | refine take_eql_t (by rfl) (by rfl) (by rfl) (by rfl) eqokh gdh (Nm.len (n := 36) (by with_reducible first | exact Nm.F2 _ | exact Nm.F6 _ | assumption | exact nm_N36d | exact nm_Z36 | exact nm_O36l | exact nm_V36d | exact nm_C36d | exact nm_X36d | (refine Nm.seg (m := 36) ?_ (by decide); assumption) | exact Nm.seg (m := 36) (Nm.F6 _) (by decide) | exact Nm.app3 (.F2 _) (.F2 _) (.F2 _) | fail)) (Nm.len (n := 36) (by with_reducible first | exact Nm.F2 _ | exact Nm.F6 _ | assumption | exact nm_N36d | exact nm_Z36 | exact nm_O36l | exact nm_V36d | exact nm_C36d | exact nm_X36d | (refine Nm.seg (m := 36) ?_ (by decide); assumption) | exact Nm.seg (m := 36) (Nm.F6 _) (by decide) | exact Nm.app3 (.F2 _) (.F2 _) (.F2 _) | fail)) (by with_reducible first | rfl | exact hx0.out | exact hi0.out | exact hm0.out) ?_
    | refine take_neq_t (by rfl) (by rfl) (by rfl) (by rfl) eqokh gdh (Nm.len (n := 36) (by with_reducible first | exact Nm.F2 _ | exact Nm.F6 _ | assumption | exact nm_N36d | exact nm_Z36 | exact nm_O36l | exact nm_V36d | exact nm_C36d | exact nm_X36d | (refine Nm.seg (m := 36) ?_ (by decide); assumption) | exact Nm.seg (m := 36) (Nm.F6 _) (by decide) | exact Nm.app3 (.F2 _) (.F2 _) (.F2 _) | fail)) (Nm.len (n := 36) (by with_reducible first | exact Nm.F2 _ | exact Nm.F6 _ | assumption | exact nm_N36d | exact nm_Z36 | exact nm_O36l | exact nm_V36d | exact nm_C36d | exact nm_X36d | (refine Nm.seg (m := 36) ?_ (by decide); assumption) | exact Nm.seg (m := 36) (Nm.F6 _) (by decide) | exact Nm.app3 (.F2 _) (.F2 _) (.F2 _) | fail)) (by with_reducible first | rfl | exact hx0.out | exact hi0.out | exact hm0.out) ?_
    | refine take_eql_f (by rfl) (by rfl) (by rfl) (by rfl) eqokh gdh (Nm.len (n := 36) (by with_reducible first | exact Nm.F2 _ | exact Nm.F6 _ | assumption | exact nm_N36d | exact nm_Z36 | exact nm_O36l | exact nm_V36d | exact nm_C36d | exact nm_X36d | (refine Nm.seg (m := 36) ?_ (by decide); assumption) | exact Nm.seg (m := 36) (Nm.F6 _) (by decide) | exact Nm.app3 (.F2 _) (.F2 _) (.F2 _) | fail)) (Nm.len (n := 36) (by with_reducible first | exact Nm.F2 _ | exact Nm.F6 _ | assumption | exact nm_N36d | exact nm_Z36 | exact nm_O36l | exact nm_V36d | exact nm_C36d | exact nm_X36d | (refine Nm.seg (m := 36) ?_ (by decide); assumption) | exact Nm.seg (m := 36) (Nm.F6 _) (by decide) | exact Nm.app3 (.F2 _) (.F2 _) (.F2 _) | fail)) (by with_reducible first | assumption) ?_
    | refine take_neq_f (by rfl) (by rfl) (by rfl) (by rfl) eqokh gdh (Nm.len (n := 36) (by with_reducible first | exact Nm.F2 _ | exact Nm.F6 _ | assumption | exact nm_N36d | exact nm_Z36 | exact nm_O36l | exact nm_V36d | exact nm_C36d | exact nm_X36d | (refine Nm.seg (m := 36) ?_ (by decide); assumption) | exact Nm.seg (m := 36) (Nm.F6 _) (by decide) | exact Nm.app3 (.F2 _) (.F2 _) (.F2 _) | fail)) (Nm.len (n := 36) (by with_reducible first | exact Nm.F2 _ | exact Nm.F6 _ | assumption | exact nm_N36d | exact nm_Z36 | exact nm_O36l | exact nm_V36d | exact nm_C36d | exact nm_X36d | (refine Nm.seg (m := 36) ?_ (by decide); assumption) | exact Nm.seg (m := 36) (Nm.F6 _) (by decide) | exact Nm.app3 (.F2 _) (.F2 _) (.F2 _) | fail)) (by with_reducible first | assumption) ?_
    | refine take_load (by rfl) 26 (by rfl) (g := S) (n := 12) (by rfl) (t := 28) (xs := a) (fun w hw => hw.has qa7 (Nat.ne_of_lt qa7.lt)) Tryd.underlying26 rfl (by kernel_rfl) (by rw [ha.len]; decide) ?_
    | refine take_loadw (by rfl) 28 (by rfl) (g := S) (n := 36) (by rfl) (t := 28) (xs := a) (fun w hw => hw.has qa7 (Nat.ne_of_lt qa7.lt)) Tryd.underlying28 rfl (by kernel_rfl) ha.len ?_
    | refine take_load (by rfl) 26 (by rfl) (g := S + 1) (n := 12) (by rfl) (t := 28) (xs := b) (fun w hw => hw.has qb7 (Nat.ne_of_lt qb7.lt)) Tryd.underlying26 rfl (by kernel_rfl) (by rw [hb.len]; decide) ?_
    | refine take_loadw (by rfl) 28 (by rfl) (g := S + 1) (n := 36) (by rfl) (t := 28) (xs := b) (fun w hw => hw.has qb7 (Nat.ne_of_lt qb7.lt)) Tryd.underlying28 rfl (by kernel_rfl) hb.len ?_
    | refine take_load (by rfl) 26 (by rfl) (g := w1.heap.size) (n := 12) (by rfl) (t := 28) (xs := N36d) (fun w hw => hw.has qz7 (Nat.ne_of_lt qz7.lt)) Tryd.underlying26 rfl (by kernel_rfl) (by rw [(show List.length N36d = 36 from rfl)]; decide) ?_
    | refine take_loadw (by rfl) 28 (by rfl) (g := w1.heap.size) (n := 36) (by rfl) (t := 28) (xs := N36d) (fun w hw => hw.has qz7 (Nat.ne_of_lt qz7.lt)) Tryd.underlying28 rfl (by kernel_rfl) (show List.length N36d = 36 from rfl) ?_
    | refine take_load (by rfl) 26 (by rfl) (g := w3.heap.size) (n := 12) (by rfl) (t := 28) (xs := (F6 (Fp6.hi (v6 a)))) (fun w hw => hw.has qi7 (Nat.ne_of_lt qi7.lt)) Tryd.underlying26 rfl (by kernel_rfl) (by rw [(Nm.F6 _).len]; decide) ?_
    | refine take_loadw (by rfl) 28 (by rfl) (g := w3.heap.size) (n := 36) (by rfl) (t := 28) (xs := (F6 (Fp6.hi (v6 a)))) (fun w hw => hw.has qi7 (Nat.ne_of_lt qi7.lt)) Tryd.underlying28 rfl (by kernel_rfl) (Nm.F6 _).len ?_
    | refine take_load (by rfl) 26 (by rfl) (g := w5.heap.size) (n := 12) (by rfl) (t := 28) (xs := (F6 (v6 a))) (fun w hw => hw.has qx7 (Nat.ne_of_lt qx7.lt)) Tryd.underlying26 rfl (by kernel_rfl) (by rw [(Nm.F6 _).len]; decide) ?_
    | refine take_loadw (by rfl) 28 (by rfl) (g := w5.heap.size) (n := 36) (by rfl) (t := 28) (xs := (F6 (v6 a))) (fun w hw => hw.has qx7 (Nat.ne_of_lt qx7.lt)) Tryd.underlying28 rfl (by kernel_rfl) (Nm.F6 _).len ?_
    | refine wpTake_cons (.inl ⟨by rfl, fun w hw => (by unfold Oper.quietAt; go_simp; (first | with_reducible refine lRed6 _ ?_ _ (HG.out _ (hb7.trans (hw.below (HSS.out _ hb7) (HSS.out _ hb7)))) | with_reducible refine lAdd6 _ ?_ _ ?_ _ (HG.out _ (hb7.trans (hw.below (HSS.out _ hb7) (HSS.out _ hb7)))) | with_reducible refine lSub6 _ ?_ _ ?_ _ (HG.out _ (hb7.trans (hw.below (HSS.out _ hb7) (HSS.out _ hb7)))) | with_reducible refine lNeg6 _ ?_ _ (HG.out _ (hb7.trans (hw.below (HSS.out _ hb7) (HSS.out _ hb7)))) | with_reducible refine lMul6 _ ?_ _ ?_ _ (HG.out _ (hb7.trans (hw.below (HSS.out _ hb7) (HSS.out _ hb7)))) | with_reducible refine lInv6 _ ?_ _ (HD.out _ (hb7.trans (hw.below (HSS.out _ hb7) (HSS.out _ hb7)))) | with_reducible refine lScale6 _ ?_ _ ?_ _ (HG.out _ (hb7.trans (hw.below (HSS.out _ hb7) (HSS.out _ hb7)))) | with_reducible refine lV6 _ ?_ _ (HG.out _ (hb7.trans (hw.below (HSS.out _ hb7) (HSS.out _ hb7)))) | with_reducible refine one_c _) <;> (with_reducible first | exact Nm.F2 _ | exact Nm.F6 _ | assumption | exact nm_N36d | exact nm_Z36 | exact nm_O36l | exact nm_V36d | exact nm_C36d | exact nm_X36d | (refine Nm.seg (m := 36) ?_ (by decide); assumption) | exact Nm.seg (m := 36) (Nm.F6 _) (by decide) | exact Nm.app3 (.F2 _) (.F2 _) (.F2 _) | fail))⟩) ?_
    | refine take_skip (by rfl) ?_
    | refine wpTake_cons (Steady.of_yields (Or.inl ⟨by rfl, fun w => (by first | (go_simp; done) | (go_simp; with_reducible rfl))⟩)) ?_); simp only [List.getElem_toArray, List.getElem_cons_zero, List.getElem_cons_succ, Act.put, List.setIfInBounds_toArray, List.set_cons_zero, List.set_cons_succ])
  refine wpTake_nil ?_
  refine wpAnyU_end (by kernel_rfl) (fun w8 hq0 => ?_)
  have hq := (drawn_below w7).trans hq0
  have qa8 := qa7.keep hq
  have qb8 := qb7.keep hq
  have qz8 := qz7.keep hq
  have qi8 := qi7.keep hq
  have qx8 := qx7.keep hq
  have hb8 := hb7.trans (hq.mono (HSS.out _ hb7))
  clear hq0 hq hb7 qa7 qb7 qz7 qi7 qx7
  go_wp2
  refine wp_reads 18 0 w8.heap.size (by kernel_rfl) (by kernel_rfl) (by rfl) (by kernel_rfl) (fun _ _ d _ _ h => by cases d <;> exact h) ?_
  simp only [List.take_succ_cons, List.take_zero]
  repeat ((first
    | refine take_eql_t (by rfl) (by rfl) (by rfl) (by rfl) eqokh gdh (Nm.len (n := 36) (by with_reducible first | exact Nm.F2 _ | exact Nm.F6 _ | assumption | exact nm_N36d | exact nm_Z36 | exact nm_O36l | exact nm_V36d | exact nm_C36d | exact nm_X36d | (refine Nm.seg (m := 36) ?_ (by decide); assumption) | exact Nm.seg (m := 36) (Nm.F6 _) (by decide) | exact Nm.app3 (.F2 _) (.F2 _) (.F2 _) | fail)) (Nm.len (n := 36) (by with_reducible first | exact Nm.F2 _ | exact Nm.F6 _ | assumption | exact nm_N36d | exact nm_Z36 | exact nm_O36l | exact nm_V36d | exact nm_C36d | exact nm_X36d | (refine Nm.seg (m := 36) ?_ (by decide); assumption) | exact Nm.seg (m := 36) (Nm.F6 _) (by decide) | exact Nm.app3 (.F2 _) (.F2 _) (.F2 _) | fail)) (by with_reducible first | rfl | exact hx0.out | exact hi0.out | exact hm0.out) ?_
    | refine take_neq_t (by rfl) (by rfl) (by rfl) (by rfl) eqokh gdh (Nm.len (n := 36) (by with_reducible first | exact Nm.F2 _ | exact Nm.F6 _ | assumption | exact nm_N36d | exact nm_Z36 | exact nm_O36l | exact nm_V36d | exact nm_C36d | exact nm_X36d | (refine Nm.seg (m := 36) ?_ (by decide); assumption) | exact Nm.seg (m := 36) (Nm.F6 _) (by decide) | exact Nm.app3 (.F2 _) (.F2 _) (.F2 _) | fail)) (Nm.len (n := 36) (by with_reducible first | exact Nm.F2 _ | exact Nm.F6 _ | assumption | exact nm_N36d | exact nm_Z36 | exact nm_O36l | exact nm_V36d | exact nm_C36d | exact nm_X36d | (refine Nm.seg (m := 36) ?_ (by decide); assumption) | exact Nm.seg (m := 36) (Nm.F6 _) (by decide) | exact Nm.app3 (.F2 _) (.F2 _) (.F2 _) | fail)) (by with_reducible first | rfl | exact hx0.out | exact hi0.out | exact hm0.out) ?_
    | refine take_eql_f (by rfl) (by rfl) (by rfl) (by rfl) eqokh gdh (Nm.len (n := 36) (by with_reducible first | exact Nm.F2 _ | exact Nm.F6 _ | assumption | exact nm_N36d | exact nm_Z36 | exact nm_O36l | exact nm_V36d | exact nm_C36d | exact nm_X36d | (refine Nm.seg (m := 36) ?_ (by decide); assumption) | exact Nm.seg (m := 36) (Nm.F6 _) (by decide) | exact Nm.app3 (.F2 _) (.F2 _) (.F2 _) | fail)) (Nm.len (n := 36) (by with_reducible first | exact Nm.F2 _ | exact Nm.F6 _ | assumption | exact nm_N36d | exact nm_Z36 | exact nm_O36l | exact nm_V36d | exact nm_C36d | exact nm_X36d | (refine Nm.seg (m := 36) ?_ (by decide); assumption) | exact Nm.seg (m := 36) (Nm.F6 _) (by decide) | exact Nm.app3 (.F2 _) (.F2 _) (.F2 _) | fail)) (by with_reducible first | assumption) ?_
    | refine take_neq_f (by rfl) (by rfl) (by rfl) (by rfl) eqokh gdh (Nm.len (n := 36) (by with_reducible first | exact Nm.F2 _ | exact Nm.F6 _ | assumption | exact nm_N36d | exact nm_Z36 | exact nm_O36l | exact nm_V36d | exact nm_C36d | exact nm_X36d | (refine Nm.seg (m := 36) ?_ (by decide); assumption) | exact Nm.seg (m := 36) (Nm.F6 _) (by decide) | exact Nm.app3 (.F2 _) (.F2 _) (.F2 _) | fail)) (Nm.len (n := 36) (by with_reducible first | exact Nm.F2 _ | exact Nm.F6 _ | assumption | exact nm_N36d | exact nm_Z36 | exact nm_O36l | exact nm_V36d | exact nm_C36d | exact nm_X36d | (refine Nm.seg (m := 36) ?_ (by decide); assumption) | exact Nm.seg (m := 36) (Nm.F6 _) (by decide) | exact Nm.app3 (.F2 _) (.F2 _) (.F2 _) | fail)) (by with_reducible first | assumption) ?_
    | refine take_load (by rfl) 26 (by rfl) (g := S) (n := 12) (by rfl) (t := 28) (xs := a) (fun w hw => hw.has qa8 (Nat.ne_of_lt qa8.lt)) Tryd.underlying26 rfl (by kernel_rfl) (by rw [ha.len]; decide) ?_
    | refine take_loadw (by rfl) 28 (by rfl) (g := S) (n := 36) (by rfl) (t := 28) (xs := a) (fun w hw => hw.has qa8 (Nat.ne_of_lt qa8.lt)) Tryd.underlying28 rfl (by kernel_rfl) ha.len ?_
    | refine take_load (by rfl) 26 (by rfl) (g := S + 1) (n := 12) (by rfl) (t := 28) (xs := b) (fun w hw => hw.has qb8 (Nat.ne_of_lt qb8.lt)) Tryd.underlying26 rfl (by kernel_rfl) (by rw [hb.len]; decide) ?_
    | refine take_loadw (by rfl) 28 (by rfl) (g := S + 1) (n := 36) (by rfl) (t := 28) (xs := b) (fun w hw => hw.has qb8 (Nat.ne_of_lt qb8.lt)) Tryd.underlying28 rfl (by kernel_rfl) hb.len ?_
    | refine take_load (by rfl) 26 (by rfl) (g := w1.heap.size) (n := 12) (by rfl) (t := 28) (xs := N36d) (fun w hw => hw.has qz8 (Nat.ne_of_lt qz8.lt)) Tryd.underlying26 rfl (by kernel_rfl) (by rw [(show List.length N36d = 36 from rfl)]; decide) ?_
    | refine take_loadw (by rfl) 28 (by rfl) (g := w1.heap.size) (n := 36) (by rfl) (t := 28) (xs := N36d) (fun w hw => hw.has qz8 (Nat.ne_of_lt qz8.lt)) Tryd.underlying28 rfl (by kernel_rfl) (show List.length N36d = 36 from rfl) ?_
    | refine take_load (by rfl) 26 (by rfl) (g := w3.heap.size) (n := 12) (by rfl) (t := 28) (xs := (F6 (Fp6.hi (v6 a)))) (fun w hw => hw.has qi8 (Nat.ne_of_lt qi8.lt)) Tryd.underlying26 rfl (by kernel_rfl) (by rw [(Nm.F6 _).len]; decide) ?_
    | refine take_loadw (by rfl) 28 (by rfl) (g := w3.heap.size) (n := 36) (by rfl) (t := 28) (xs := (F6 (Fp6.hi (v6 a)))) (fun w hw => hw.has qi8 (Nat.ne_of_lt qi8.lt)) Tryd.underlying28 rfl (by kernel_rfl) (Nm.F6 _).len ?_
    | refine take_load (by rfl) 26 (by rfl) (g := w5.heap.size) (n := 12) (by rfl) (t := 28) (xs := (F6 (v6 a))) (fun w hw => hw.has qx8 (Nat.ne_of_lt qx8.lt)) Tryd.underlying26 rfl (by kernel_rfl) (by rw [(Nm.F6 _).len]; decide) ?_
    | refine take_loadw (by rfl) 28 (by rfl) (g := w5.heap.size) (n := 36) (by rfl) (t := 28) (xs := (F6 (v6 a))) (fun w hw => hw.has qx8 (Nat.ne_of_lt qx8.lt)) Tryd.underlying28 rfl (by kernel_rfl) (Nm.F6 _).len ?_
    | refine wpTake_cons (.inl ⟨by rfl, fun w hw => (by unfold Oper.quietAt; go_simp; (first | with_reducible refine lRed6 _ ?_ _ (HG.out _ (hb8.trans (hw.below (HSS.out _ hb8) (HSS.out _ hb8)))) | with_reducible refine lAdd6 _ ?_ _ ?_ _ (HG.out _ (hb8.trans (hw.below (HSS.out _ hb8) (HSS.out _ hb8)))) | with_reducible refine lSub6 _ ?_ _ ?_ _ (HG.out _ (hb8.trans (hw.below (HSS.out _ hb8) (HSS.out _ hb8)))) | with_reducible refine lNeg6 _ ?_ _ (HG.out _ (hb8.trans (hw.below (HSS.out _ hb8) (HSS.out _ hb8)))) | with_reducible refine lMul6 _ ?_ _ ?_ _ (HG.out _ (hb8.trans (hw.below (HSS.out _ hb8) (HSS.out _ hb8)))) | with_reducible refine lInv6 _ ?_ _ (HD.out _ (hb8.trans (hw.below (HSS.out _ hb8) (HSS.out _ hb8)))) | with_reducible refine lScale6 _ ?_ _ ?_ _ (HG.out _ (hb8.trans (hw.below (HSS.out _ hb8) (HSS.out _ hb8)))) | with_reducible refine lV6 _ ?_ _ (HG.out _ (hb8.trans (hw.below (HSS.out _ hb8) (HSS.out _ hb8)))) | with_reducible refine one_c _) <;> (with_reducible first | exact Nm.F2 _ | exact Nm.F6 _ | assumption | exact nm_N36d | exact nm_Z36 | exact nm_O36l | exact nm_V36d | exact nm_C36d | exact nm_X36d | (refine Nm.seg (m := 36) ?_ (by decide); assumption) | exact Nm.seg (m := 36) (Nm.F6 _) (by decide) | exact Nm.app3 (.F2 _) (.F2 _) (.F2 _) | fail))⟩) ?_
    | refine take_skip (by rfl) ?_
    | refine wpTake_cons (Steady.of_yields (Or.inl ⟨by rfl, fun w => (by first | (go_simp; done) | (go_simp; with_reducible rfl))⟩)) ?_); simp only [List.getElem_toArray, List.getElem_cons_zero, List.getElem_cons_succ, Act.put, List.setIfInBounds_toArray, List.set_cons_zero, List.set_cons_succ])
  refine wpTake_nil ?_
  refine wpAnyU_end (by kernel_rfl) (fun w9 hq0 => ?_)
  have hq := (drawn_below w8).trans hq0
  have qa9 := qa8.keep hq
  have qb9 := qb8.keep hq
  have qz9 := qz8.keep hq
  have qi9 := qi8.keep hq
  have qx9 := qx8.keep hq
  have hb9 := hb8.trans (hq.mono (HSS.out _ hb8))
  clear hq0 hq hb8 qa8 qb8 qz8 qi8 qx8
  go_wp2
  go_ret
  exact ⟨rfl, hb9⟩

set_option maxRecDepth 100000 in
set_option maxHeartbeats 4000000 in
theorem inverse_b0 (a : List Int) (ha : Nm 36 a) (b : List Int) (hb : Nm 36 b) (w : World) (hG : GlobD w) (hz : ¬ Fp6.Z6 (v6 a)) (hy : Fp6.Z6 (v6 b)) : Calls Tryd.prog 6 #[.agg (vals .u64 a), .agg (vals .u64 b)] w fun e w' => e = .returned (.bool true) ∧ Below w.heap.size w w' := by
  have hx1 : Keep (F6 (v6 a) ≠ N36d) := ⟨fun h => hz ((Fz _).1 h)⟩
  have hm1 : Keep (F6 (Fp6.hm (v6 a) (v6 (F6 (Fp6.hi (v6 a))))) = O36l) := ⟨by rw [← one_l]; exact F6_eq ((Fp6.hm_congr E6.rfl (v6_F6 _)).trans (Fp6.hm_hi hz))⟩
  have hii : Keep (F6 (Fp6.hi (v6 (F6 (Fp6.hi (v6 a))))) = F6 (v6 a)) := ⟨F6_eq ((Fp6.hi_congr (v6_F6 _)).trans (Fp6.hi_hi hz))⟩
  have hm0 : Keep (F6 (Fp6.hm (v6 a) (v6 b)) = N36d) := ⟨(Fz _).2 (by rw [Fp6.hm_comm]; exact Fp6.hm_zl hy)⟩
  have hb0_ : Keep (F6 (v6 b) = N36d) := ⟨(Fz _).2 hy⟩
  obtain ⟨S, hS⟩ : ∃ S, w.heap.size = S := ⟨_, rfl⟩
  have qa0 : Has ((w.alloc (.cells (vals .u64 a) 28)).alloc (.cells (vals .u64 b) 28)) (S) 28 (vals .u64 a) := ((Has.new' _ hS.symm _ _).alloc _)
  have qb0 : Has ((w.alloc (.cells (vals .u64 a) 28)).alloc (.cells (vals .u64 b) 28)) (S + 1) 28 (vals .u64 b) := (Has.new' _ (by simp only [World.size_alloc, hS]) _ _)
  have hb0 : Below S w ((w.alloc (.cells (vals .u64 a) 28)).alloc (.cells (vals .u64 b) 28)) := by rw [← hS]; exact (((Below.refl _ _).alloc (Nat.le_refl _) _).alloc (by simp <;> omega) _)
  have hsz0 : ((w.alloc (.cells (vals .u64 a) 28)).alloc (.cells (vals .u64 b) 28)).heap.size = S + 2 := by simp only [World.size_alloc, hS]
  have HSS : Keep (∀ x : World, Below S w x → S ≤ x.heap.size) := ⟨fun x hb => Nat.le_trans (by omega) hb.size⟩
  have HD : Keep (∀ x : World, Below S w x → GlobD x) := ⟨fun x hb => hG.keep (by rw [hS]; exact hb)⟩
  have HG : Keep (∀ x : World, Below S w x → Glob x) := ⟨fun x hb => (HD.out x hb).toGlob⟩
  clear hG
  clear hz hy
  rw [hS]
  go_enter Tryd.func6, Tryd.ntmps6
  go_wp2_with (first
    | (refine store_abs2 (by rfl) 28 (.tmp 8) (.tmp 16) (by rfl) (by rfl) (w5.heap.size) (vals .u64 (F6 (v6 a))) (by rfl) (by rfl) 28 (vals .u64 Fp6.Z36) (Has.new' _ rfl _ _) (by rw [vals_size, (Nm.F6 _).len]; kernel_rfl) (by first | (rw [vals_size, vals_size, (Nm.F6 _).len]; rfl) | rfl) vals_one ?_
       intro w6 qx6 hkeep hbg
       have hbe := ((Below.refl w5.heap.size w5).alloc (Nat.le_refl _) (.cells (vals .u64 Fp6.Z36) 28)).trans hbg
       have Nax := qa5.lt
       have qa6 := qa5.keep hbe
       have Nbx := qb5.lt
       have qb6 := qb5.keep hbe
       have Nzx := qz5.lt
       have qz6 := qz5.keep hbe
       have Nix := qi5.lt
       have qi6 := qi5.keep hbe
       have Mx : S ≤ w5.heap.size := HSS.out _ hb5
       have hb6 := hb5.trans (hbe.mono (HSS.out _ hb5))
       clear hkeep hbg hbe hb5 qa5 qb5 qz5 qi5)
    | (have hq0 := hb4
       clear hq0
       go_at_call 10
       refine (lRed6 a ha _ (HG.out _ hb4)).mono ?_
       rintro e w5 ⟨rfl, hq⟩
       have qa5 := qa4.keep hq
       have qb5 := qb4.keep hq
       have qz5 := qz4.keep hq
       have qi5 := qi4.keep hq
       have hb5 := hb4.trans (hq.mono (HSS.out _ hb4))
       clear hq hb4 qa4 qb4 qz4 qi4)
    | (refine wpList_load_row rfl 28 (.tmp 2) rfl (S) rfl _ _ _ _ qa4.eq Tryd.underlying28 rfl (by rw [vals_size, ha.len]; kernel_rfl) ?_)
    | (refine store_abs2 (by rfl) 28 (.tmp 7) (.tmp 14) (by rfl) (by rfl) (w3.heap.size) (vals .u64 (F6 (Fp6.hi (v6 a)))) (by rfl) (by rfl) 28 (vals .u64 Fp6.Z36) (Has.new' _ rfl _ _) (by rw [vals_size, (Nm.F6 _).len]; kernel_rfl) (by first | (rw [vals_size, vals_size, (Nm.F6 _).len]; rfl) | rfl) vals_one ?_
       intro w4 qi4 hkeep hbg
       have hbe := ((Below.refl w3.heap.size w3).alloc (Nat.le_refl _) (.cells (vals .u64 Fp6.Z36) 28)).trans hbg
       have Nai := qa3.lt
       have qa4 := qa3.keep hbe
       have Nbi := qb3.lt
       have qb4 := qb3.keep hbe
       have Nzi := qz3.lt
       have qz4 := qz3.keep hbe
       have Mi : S ≤ w3.heap.size := HSS.out _ hb3
       have hb4 := hb3.trans (hbe.mono (HSS.out _ hb3))
       clear hkeep hbg hbe hb3 qa3 qb3 qz3)
    | (have hq0 := hb2
       clear hq0
       go_at_call 22
       refine (lInv6 a ha _ (HD.out _ hb2)).mono ?_
       rintro e w3 ⟨rfl, hq⟩
       have qa3 := qa2.keep hq
       have qb3 := qb2.keep hq
       have qz3 := qz2.keep hq
       have hb3 := hb2.trans (hq.mono (HSS.out _ hb2))
       clear hq hb2 qa2 qb2 qz2)
    | (refine wpList_load_row rfl 28 (.tmp 2) rfl (S) rfl _ _ _ _ qa2.eq Tryd.underlying28 rfl (by rw [vals_size, ha.len]; kernel_rfl) ?_)
    | (refine store_abs2 (by rfl) 28 (.tmp 6) (.tmp 12) (by rfl) (by rfl) (w1.heap.size) (vals .u64 N36d) (by rfl) (by rfl) 28 (vals .u64 Fp6.Z36) (Has.new' _ rfl _ _) (by rw [vals_size, (show List.length N36d = 36 from rfl)]; kernel_rfl) (by first | (rw [vals_size, vals_size, (show List.length N36d = 36 from rfl)]; rfl) | rfl) vals_one ?_
       intro w2 qz2 hkeep hbg
       have hbe := ((Below.refl w1.heap.size w1).alloc (Nat.le_refl _) (.cells (vals .u64 Fp6.Z36) 28)).trans hbg
       have Naz := qa1.lt
       have qa2 := qa1.keep hbe
       have Nbz := qb1.lt
       have qb2 := qb1.keep hbe
       have Mz : S ≤ w1.heap.size := HSS.out _ hb1
       have hb2 := hb1.trans (hbe.mono (HSS.out _ hb1))
       clear hkeep hbg hbe hb1 qa1 qb1)
    | (refine wpList_buildTo (by rfl) 28 #[] (by rfl) (some 12) (by rfl) (vals .u64 N36d) (by kernel_rfl) ?_)
    | (have hq0 := hb0
       clear hq0
       go_at_call 9
       refine (awake_c _ (HD.out _ hb0)).mono ?_
       rintro e w1 ⟨rfl, hq⟩
       have qa1 := qa0.keep hq
       have qb1 := qb0.keep hq
       have hb1 := hb0.trans (hq.mono (HSS.out _ hb0))
       clear hq hb0 qa0 qb0))
  refine wp_reads 27 0 w6.heap.size (by kernel_rfl) (by kernel_rfl) (by rfl) (by kernel_rfl) (fun _ _ d _ _ h => by cases d <;> exact h) ?_
  simp only [List.take_succ_cons, List.take_zero]
  repeat ((first
    | refine take_eql_t (by rfl) (by rfl) (by rfl) (by rfl) eqokh gdh (Nm.len (n := 36) (by with_reducible first | exact Nm.F2 _ | exact Nm.F6 _ | assumption | exact nm_N36d | exact nm_Z36 | exact nm_O36l | exact nm_V36d | exact nm_C36d | exact nm_X36d | (refine Nm.seg (m := 36) ?_ (by decide); assumption) | exact Nm.seg (m := 36) (Nm.F6 _) (by decide) | exact Nm.app3 (.F2 _) (.F2 _) (.F2 _) | fail)) (Nm.len (n := 36) (by with_reducible first | exact Nm.F2 _ | exact Nm.F6 _ | assumption | exact nm_N36d | exact nm_Z36 | exact nm_O36l | exact nm_V36d | exact nm_C36d | exact nm_X36d | (refine Nm.seg (m := 36) ?_ (by decide); assumption) | exact Nm.seg (m := 36) (Nm.F6 _) (by decide) | exact Nm.app3 (.F2 _) (.F2 _) (.F2 _) | fail)) (by with_reducible first | rfl | exact hm1.out | exact hii.out | exact hm0.out | exact hb0_.out) ?_
    | refine take_neq_t (by rfl) (by rfl) (by rfl) (by rfl) eqokh gdh (Nm.len (n := 36) (by with_reducible first | exact Nm.F2 _ | exact Nm.F6 _ | assumption | exact nm_N36d | exact nm_Z36 | exact nm_O36l | exact nm_V36d | exact nm_C36d | exact nm_X36d | (refine Nm.seg (m := 36) ?_ (by decide); assumption) | exact Nm.seg (m := 36) (Nm.F6 _) (by decide) | exact Nm.app3 (.F2 _) (.F2 _) (.F2 _) | fail)) (Nm.len (n := 36) (by with_reducible first | exact Nm.F2 _ | exact Nm.F6 _ | assumption | exact nm_N36d | exact nm_Z36 | exact nm_O36l | exact nm_V36d | exact nm_C36d | exact nm_X36d | (refine Nm.seg (m := 36) ?_ (by decide); assumption) | exact Nm.seg (m := 36) (Nm.F6 _) (by decide) | exact Nm.app3 (.F2 _) (.F2 _) (.F2 _) | fail)) (by with_reducible first | rfl | exact hm1.out | exact hii.out | exact hm0.out | exact hb0_.out) ?_
    | refine take_eql_f (by rfl) (by rfl) (by rfl) (by rfl) eqokh gdh (Nm.len (n := 36) (by with_reducible first | exact Nm.F2 _ | exact Nm.F6 _ | assumption | exact nm_N36d | exact nm_Z36 | exact nm_O36l | exact nm_V36d | exact nm_C36d | exact nm_X36d | (refine Nm.seg (m := 36) ?_ (by decide); assumption) | exact Nm.seg (m := 36) (Nm.F6 _) (by decide) | exact Nm.app3 (.F2 _) (.F2 _) (.F2 _) | fail)) (Nm.len (n := 36) (by with_reducible first | exact Nm.F2 _ | exact Nm.F6 _ | assumption | exact nm_N36d | exact nm_Z36 | exact nm_O36l | exact nm_V36d | exact nm_C36d | exact nm_X36d | (refine Nm.seg (m := 36) ?_ (by decide); assumption) | exact Nm.seg (m := 36) (Nm.F6 _) (by decide) | exact Nm.app3 (.F2 _) (.F2 _) (.F2 _) | fail)) (by with_reducible first | assumption | exact hx1.out) ?_
    | refine take_neq_f (by rfl) (by rfl) (by rfl) (by rfl) eqokh gdh (Nm.len (n := 36) (by with_reducible first | exact Nm.F2 _ | exact Nm.F6 _ | assumption | exact nm_N36d | exact nm_Z36 | exact nm_O36l | exact nm_V36d | exact nm_C36d | exact nm_X36d | (refine Nm.seg (m := 36) ?_ (by decide); assumption) | exact Nm.seg (m := 36) (Nm.F6 _) (by decide) | exact Nm.app3 (.F2 _) (.F2 _) (.F2 _) | fail)) (Nm.len (n := 36) (by with_reducible first | exact Nm.F2 _ | exact Nm.F6 _ | assumption | exact nm_N36d | exact nm_Z36 | exact nm_O36l | exact nm_V36d | exact nm_C36d | exact nm_X36d | (refine Nm.seg (m := 36) ?_ (by decide); assumption) | exact Nm.seg (m := 36) (Nm.F6 _) (by decide) | exact Nm.app3 (.F2 _) (.F2 _) (.F2 _) | fail)) (by with_reducible first | assumption | exact hx1.out) ?_
    | refine take_load (by rfl) 26 (by rfl) (g := S) (n := 12) (by rfl) (t := 28) (xs := a) (fun w hw => hw.has qa6 (Nat.ne_of_lt qa6.lt)) Tryd.underlying26 rfl (by kernel_rfl) (by rw [ha.len]; decide) ?_
    | refine take_loadw (by rfl) 28 (by rfl) (g := S) (n := 36) (by rfl) (t := 28) (xs := a) (fun w hw => hw.has qa6 (Nat.ne_of_lt qa6.lt)) Tryd.underlying28 rfl (by kernel_rfl) ha.len ?_
    | refine take_load (by rfl) 26 (by rfl) (g := S + 1) (n := 12) (by rfl) (t := 28) (xs := b) (fun w hw => hw.has qb6 (Nat.ne_of_lt qb6.lt)) Tryd.underlying26 rfl (by kernel_rfl) (by rw [hb.len]; decide) ?_
    | refine take_loadw (by rfl) 28 (by rfl) (g := S + 1) (n := 36) (by rfl) (t := 28) (xs := b) (fun w hw => hw.has qb6 (Nat.ne_of_lt qb6.lt)) Tryd.underlying28 rfl (by kernel_rfl) hb.len ?_
    | refine take_load (by rfl) 26 (by rfl) (g := w1.heap.size) (n := 12) (by rfl) (t := 28) (xs := N36d) (fun w hw => hw.has qz6 (Nat.ne_of_lt qz6.lt)) Tryd.underlying26 rfl (by kernel_rfl) (by rw [(show List.length N36d = 36 from rfl)]; decide) ?_
    | refine take_loadw (by rfl) 28 (by rfl) (g := w1.heap.size) (n := 36) (by rfl) (t := 28) (xs := N36d) (fun w hw => hw.has qz6 (Nat.ne_of_lt qz6.lt)) Tryd.underlying28 rfl (by kernel_rfl) (show List.length N36d = 36 from rfl) ?_
    | refine take_load (by rfl) 26 (by rfl) (g := w3.heap.size) (n := 12) (by rfl) (t := 28) (xs := (F6 (Fp6.hi (v6 a)))) (fun w hw => hw.has qi6 (Nat.ne_of_lt qi6.lt)) Tryd.underlying26 rfl (by kernel_rfl) (by rw [(Nm.F6 _).len]; decide) ?_
    | refine take_loadw (by rfl) 28 (by rfl) (g := w3.heap.size) (n := 36) (by rfl) (t := 28) (xs := (F6 (Fp6.hi (v6 a)))) (fun w hw => hw.has qi6 (Nat.ne_of_lt qi6.lt)) Tryd.underlying28 rfl (by kernel_rfl) (Nm.F6 _).len ?_
    | refine take_load (by rfl) 26 (by rfl) (g := w5.heap.size) (n := 12) (by rfl) (t := 28) (xs := (F6 (v6 a))) (fun w hw => hw.has qx6 (Nat.ne_of_lt qx6.lt)) Tryd.underlying26 rfl (by kernel_rfl) (by rw [(Nm.F6 _).len]; decide) ?_
    | refine take_loadw (by rfl) 28 (by rfl) (g := w5.heap.size) (n := 36) (by rfl) (t := 28) (xs := (F6 (v6 a))) (fun w hw => hw.has qx6 (Nat.ne_of_lt qx6.lt)) Tryd.underlying28 rfl (by kernel_rfl) (Nm.F6 _).len ?_
    | refine wpTake_cons (.inl ⟨by rfl, fun w hw => (by unfold Oper.quietAt; go_simp; (first | with_reducible refine lRed6 _ ?_ _ (HG.out _ (hb6.trans (hw.below (HSS.out _ hb6) (HSS.out _ hb6)))) | with_reducible refine lAdd6 _ ?_ _ ?_ _ (HG.out _ (hb6.trans (hw.below (HSS.out _ hb6) (HSS.out _ hb6)))) | with_reducible refine lSub6 _ ?_ _ ?_ _ (HG.out _ (hb6.trans (hw.below (HSS.out _ hb6) (HSS.out _ hb6)))) | with_reducible refine lNeg6 _ ?_ _ (HG.out _ (hb6.trans (hw.below (HSS.out _ hb6) (HSS.out _ hb6)))) | with_reducible refine lMul6 _ ?_ _ ?_ _ (HG.out _ (hb6.trans (hw.below (HSS.out _ hb6) (HSS.out _ hb6)))) | with_reducible refine lInv6 _ ?_ _ (HD.out _ (hb6.trans (hw.below (HSS.out _ hb6) (HSS.out _ hb6)))) | with_reducible refine lScale6 _ ?_ _ ?_ _ (HG.out _ (hb6.trans (hw.below (HSS.out _ hb6) (HSS.out _ hb6)))) | with_reducible refine lV6 _ ?_ _ (HG.out _ (hb6.trans (hw.below (HSS.out _ hb6) (HSS.out _ hb6)))) | with_reducible refine one_c _) <;> (with_reducible first | exact Nm.F2 _ | exact Nm.F6 _ | assumption | exact nm_N36d | exact nm_Z36 | exact nm_O36l | exact nm_V36d | exact nm_C36d | exact nm_X36d | (refine Nm.seg (m := 36) ?_ (by decide); assumption) | exact Nm.seg (m := 36) (Nm.F6 _) (by decide) | exact Nm.app3 (.F2 _) (.F2 _) (.F2 _) | fail))⟩) ?_
    | refine take_skip (by rfl) ?_
    | refine wpTake_cons (Steady.of_yields (Or.inl ⟨by rfl, fun w => (by first | (go_simp; done) | (go_simp; with_reducible rfl))⟩)) ?_); simp only [List.getElem_toArray, List.getElem_cons_zero, List.getElem_cons_succ, Act.put, List.setIfInBounds_toArray, List.set_cons_zero, List.set_cons_succ])
  refine wpTake_nil ?_
  refine wpAnyU_end (by kernel_rfl) (fun w7 hq0 => ?_)
  have hq := (drawn_below w6).trans hq0
  have qa7 := qa6.keep hq
  have qb7 := qb6.keep hq
  have qz7 := qz6.keep hq
  have qi7 := qi6.keep hq
  have qx7 := qx6.keep hq
  have hb7 := hb6.trans (hq.mono (HSS.out _ hb6))
  clear hq0 hq hb6 qa6 qb6 qz6 qi6 qx6
  go_wp2
  refine wp_reads 6 0 w7.heap.size (by kernel_rfl) (by kernel_rfl) (by rfl) (by kernel_rfl) (fun _ _ d _ _ h => by cases d <;> exact h) ?_
  simp only [List.take_succ_cons, List.take_zero]
  repeat ((first
    | refine take_eql_t (by rfl) (by rfl) (by rfl) (by rfl) eqokh gdh (Nm.len (n := 36) (by with_reducible first | exact Nm.F2 _ | exact Nm.F6 _ | assumption | exact nm_N36d | exact nm_Z36 | exact nm_O36l | exact nm_V36d | exact nm_C36d | exact nm_X36d | (refine Nm.seg (m := 36) ?_ (by decide); assumption) | exact Nm.seg (m := 36) (Nm.F6 _) (by decide) | exact Nm.app3 (.F2 _) (.F2 _) (.F2 _) | fail)) (Nm.len (n := 36) (by with_reducible first | exact Nm.F2 _ | exact Nm.F6 _ | assumption | exact nm_N36d | exact nm_Z36 | exact nm_O36l | exact nm_V36d | exact nm_C36d | exact nm_X36d | (refine Nm.seg (m := 36) ?_ (by decide); assumption) | exact Nm.seg (m := 36) (Nm.F6 _) (by decide) | exact Nm.app3 (.F2 _) (.F2 _) (.F2 _) | fail)) (by with_reducible first | rfl | exact hm1.out | exact hii.out | exact hm0.out | exact hb0_.out) ?_
    | refine take_neq_t (by rfl) (by rfl) (by rfl) (by rfl) eqokh gdh (Nm.len (n := 36) (by with_reducible first | exact Nm.F2 _ | exact Nm.F6 _ | assumption | exact nm_N36d | exact nm_Z36 | exact nm_O36l | exact nm_V36d | exact nm_C36d | exact nm_X36d | (refine Nm.seg (m := 36) ?_ (by decide); assumption) | exact Nm.seg (m := 36) (Nm.F6 _) (by decide) | exact Nm.app3 (.F2 _) (.F2 _) (.F2 _) | fail)) (Nm.len (n := 36) (by with_reducible first | exact Nm.F2 _ | exact Nm.F6 _ | assumption | exact nm_N36d | exact nm_Z36 | exact nm_O36l | exact nm_V36d | exact nm_C36d | exact nm_X36d | (refine Nm.seg (m := 36) ?_ (by decide); assumption) | exact Nm.seg (m := 36) (Nm.F6 _) (by decide) | exact Nm.app3 (.F2 _) (.F2 _) (.F2 _) | fail)) (by with_reducible first | rfl | exact hm1.out | exact hii.out | exact hm0.out | exact hb0_.out) ?_
    | refine take_eql_f (by rfl) (by rfl) (by rfl) (by rfl) eqokh gdh (Nm.len (n := 36) (by with_reducible first | exact Nm.F2 _ | exact Nm.F6 _ | assumption | exact nm_N36d | exact nm_Z36 | exact nm_O36l | exact nm_V36d | exact nm_C36d | exact nm_X36d | (refine Nm.seg (m := 36) ?_ (by decide); assumption) | exact Nm.seg (m := 36) (Nm.F6 _) (by decide) | exact Nm.app3 (.F2 _) (.F2 _) (.F2 _) | fail)) (Nm.len (n := 36) (by with_reducible first | exact Nm.F2 _ | exact Nm.F6 _ | assumption | exact nm_N36d | exact nm_Z36 | exact nm_O36l | exact nm_V36d | exact nm_C36d | exact nm_X36d | (refine Nm.seg (m := 36) ?_ (by decide); assumption) | exact Nm.seg (m := 36) (Nm.F6 _) (by decide) | exact Nm.app3 (.F2 _) (.F2 _) (.F2 _) | fail)) (by with_reducible first | assumption | exact hx1.out) ?_
    | refine take_neq_f (by rfl) (by rfl) (by rfl) (by rfl) eqokh gdh (Nm.len (n := 36) (by with_reducible first | exact Nm.F2 _ | exact Nm.F6 _ | assumption | exact nm_N36d | exact nm_Z36 | exact nm_O36l | exact nm_V36d | exact nm_C36d | exact nm_X36d | (refine Nm.seg (m := 36) ?_ (by decide); assumption) | exact Nm.seg (m := 36) (Nm.F6 _) (by decide) | exact Nm.app3 (.F2 _) (.F2 _) (.F2 _) | fail)) (Nm.len (n := 36) (by with_reducible first | exact Nm.F2 _ | exact Nm.F6 _ | assumption | exact nm_N36d | exact nm_Z36 | exact nm_O36l | exact nm_V36d | exact nm_C36d | exact nm_X36d | (refine Nm.seg (m := 36) ?_ (by decide); assumption) | exact Nm.seg (m := 36) (Nm.F6 _) (by decide) | exact Nm.app3 (.F2 _) (.F2 _) (.F2 _) | fail)) (by with_reducible first | assumption | exact hx1.out) ?_
    | refine take_load (by rfl) 26 (by rfl) (g := S) (n := 12) (by rfl) (t := 28) (xs := a) (fun w hw => hw.has qa7 (Nat.ne_of_lt qa7.lt)) Tryd.underlying26 rfl (by kernel_rfl) (by rw [ha.len]; decide) ?_
    | refine take_loadw (by rfl) 28 (by rfl) (g := S) (n := 36) (by rfl) (t := 28) (xs := a) (fun w hw => hw.has qa7 (Nat.ne_of_lt qa7.lt)) Tryd.underlying28 rfl (by kernel_rfl) ha.len ?_
    | refine take_load (by rfl) 26 (by rfl) (g := S + 1) (n := 12) (by rfl) (t := 28) (xs := b) (fun w hw => hw.has qb7 (Nat.ne_of_lt qb7.lt)) Tryd.underlying26 rfl (by kernel_rfl) (by rw [hb.len]; decide) ?_
    | refine take_loadw (by rfl) 28 (by rfl) (g := S + 1) (n := 36) (by rfl) (t := 28) (xs := b) (fun w hw => hw.has qb7 (Nat.ne_of_lt qb7.lt)) Tryd.underlying28 rfl (by kernel_rfl) hb.len ?_
    | refine take_load (by rfl) 26 (by rfl) (g := w1.heap.size) (n := 12) (by rfl) (t := 28) (xs := N36d) (fun w hw => hw.has qz7 (Nat.ne_of_lt qz7.lt)) Tryd.underlying26 rfl (by kernel_rfl) (by rw [(show List.length N36d = 36 from rfl)]; decide) ?_
    | refine take_loadw (by rfl) 28 (by rfl) (g := w1.heap.size) (n := 36) (by rfl) (t := 28) (xs := N36d) (fun w hw => hw.has qz7 (Nat.ne_of_lt qz7.lt)) Tryd.underlying28 rfl (by kernel_rfl) (show List.length N36d = 36 from rfl) ?_
    | refine take_load (by rfl) 26 (by rfl) (g := w3.heap.size) (n := 12) (by rfl) (t := 28) (xs := (F6 (Fp6.hi (v6 a)))) (fun w hw => hw.has qi7 (Nat.ne_of_lt qi7.lt)) Tryd.underlying26 rfl (by kernel_rfl) (by rw [(Nm.F6 _).len]; decide) ?_
    | refine take_loadw (by rfl) 28 (by rfl) (g := w3.heap.size) (n := 36) (by rfl) (t := 28) (xs := (F6 (Fp6.hi (v6 a)))) (fun w hw => hw.has qi7 (Nat.ne_of_lt qi7.lt)) Tryd.underlying28 rfl (by kernel_rfl) (Nm.F6 _).len ?_
    | refine take_load (by rfl) 26 (by rfl) (g := w5.heap.size) (n := 12) (by rfl) (t := 28) (xs := (F6 (v6 a))) (fun w hw => hw.has qx7 (Nat.ne_of_lt qx7.lt)) Tryd.underlying26 rfl (by kernel_rfl) (by rw [(Nm.F6 _).len]; decide) ?_
    | refine take_loadw (by rfl) 28 (by rfl) (g := w5.heap.size) (n := 36) (by rfl) (t := 28) (xs := (F6 (v6 a))) (fun w hw => hw.has qx7 (Nat.ne_of_lt qx7.lt)) Tryd.underlying28 rfl (by kernel_rfl) (Nm.F6 _).len ?_
    | refine wpTake_cons (.inl ⟨by rfl, fun w hw => (by unfold Oper.quietAt; go_simp; (first | with_reducible refine lRed6 _ ?_ _ (HG.out _ (hb7.trans (hw.below (HSS.out _ hb7) (HSS.out _ hb7)))) | with_reducible refine lAdd6 _ ?_ _ ?_ _ (HG.out _ (hb7.trans (hw.below (HSS.out _ hb7) (HSS.out _ hb7)))) | with_reducible refine lSub6 _ ?_ _ ?_ _ (HG.out _ (hb7.trans (hw.below (HSS.out _ hb7) (HSS.out _ hb7)))) | with_reducible refine lNeg6 _ ?_ _ (HG.out _ (hb7.trans (hw.below (HSS.out _ hb7) (HSS.out _ hb7)))) | with_reducible refine lMul6 _ ?_ _ ?_ _ (HG.out _ (hb7.trans (hw.below (HSS.out _ hb7) (HSS.out _ hb7)))) | with_reducible refine lInv6 _ ?_ _ (HD.out _ (hb7.trans (hw.below (HSS.out _ hb7) (HSS.out _ hb7)))) | with_reducible refine lScale6 _ ?_ _ ?_ _ (HG.out _ (hb7.trans (hw.below (HSS.out _ hb7) (HSS.out _ hb7)))) | with_reducible refine lV6 _ ?_ _ (HG.out _ (hb7.trans (hw.below (HSS.out _ hb7) (HSS.out _ hb7)))) | with_reducible refine one_c _) <;> (with_reducible first | exact Nm.F2 _ | exact Nm.F6 _ | assumption | exact nm_N36d | exact nm_Z36 | exact nm_O36l | exact nm_V36d | exact nm_C36d | exact nm_X36d | (refine Nm.seg (m := 36) ?_ (by decide); assumption) | exact Nm.seg (m := 36) (Nm.F6 _) (by decide) | exact Nm.app3 (.F2 _) (.F2 _) (.F2 _) | fail))⟩) ?_
    | refine take_skip (by rfl) ?_
    | refine wpTake_cons (Steady.of_yields (Or.inl ⟨by rfl, fun w => (by first | (go_simp; done) | (go_simp; with_reducible rfl))⟩)) ?_); simp only [List.getElem_toArray, List.getElem_cons_zero, List.getElem_cons_succ, Act.put, List.setIfInBounds_toArray, List.set_cons_zero, List.set_cons_succ])
  refine wpTake_nil ?_
  refine wpAnyU_end (by kernel_rfl) (fun w8 hq0 => ?_)
  have hq := (drawn_below w7).trans hq0
  have qa8 := qa7.keep hq
  have qb8 := qb7.keep hq
  have qz8 := qz7.keep hq
  have qi8 := qi7.keep hq
  have qx8 := qx7.keep hq
  have hb8 := hb7.trans (hq.mono (HSS.out _ hb7))
  clear hq0 hq hb7 qa7 qb7 qz7 qi7 qx7
  go_wp2
  refine wp_reads 18 0 w8.heap.size (by kernel_rfl) (by kernel_rfl) (by rfl) (by kernel_rfl) (fun _ _ d _ _ h => by cases d <;> exact h) ?_
  simp only [List.take_succ_cons, List.take_zero]
  repeat ((first
    | refine take_eql_t (by rfl) (by rfl) (by rfl) (by rfl) eqokh gdh (Nm.len (n := 36) (by with_reducible first | exact Nm.F2 _ | exact Nm.F6 _ | assumption | exact nm_N36d | exact nm_Z36 | exact nm_O36l | exact nm_V36d | exact nm_C36d | exact nm_X36d | (refine Nm.seg (m := 36) ?_ (by decide); assumption) | exact Nm.seg (m := 36) (Nm.F6 _) (by decide) | exact Nm.app3 (.F2 _) (.F2 _) (.F2 _) | fail)) (Nm.len (n := 36) (by with_reducible first | exact Nm.F2 _ | exact Nm.F6 _ | assumption | exact nm_N36d | exact nm_Z36 | exact nm_O36l | exact nm_V36d | exact nm_C36d | exact nm_X36d | (refine Nm.seg (m := 36) ?_ (by decide); assumption) | exact Nm.seg (m := 36) (Nm.F6 _) (by decide) | exact Nm.app3 (.F2 _) (.F2 _) (.F2 _) | fail)) (by with_reducible first | rfl | exact hm1.out | exact hii.out | exact hm0.out | exact hb0_.out) ?_
    | refine take_neq_t (by rfl) (by rfl) (by rfl) (by rfl) eqokh gdh (Nm.len (n := 36) (by with_reducible first | exact Nm.F2 _ | exact Nm.F6 _ | assumption | exact nm_N36d | exact nm_Z36 | exact nm_O36l | exact nm_V36d | exact nm_C36d | exact nm_X36d | (refine Nm.seg (m := 36) ?_ (by decide); assumption) | exact Nm.seg (m := 36) (Nm.F6 _) (by decide) | exact Nm.app3 (.F2 _) (.F2 _) (.F2 _) | fail)) (Nm.len (n := 36) (by with_reducible first | exact Nm.F2 _ | exact Nm.F6 _ | assumption | exact nm_N36d | exact nm_Z36 | exact nm_O36l | exact nm_V36d | exact nm_C36d | exact nm_X36d | (refine Nm.seg (m := 36) ?_ (by decide); assumption) | exact Nm.seg (m := 36) (Nm.F6 _) (by decide) | exact Nm.app3 (.F2 _) (.F2 _) (.F2 _) | fail)) (by with_reducible first | rfl | exact hm1.out | exact hii.out | exact hm0.out | exact hb0_.out) ?_
    | refine take_eql_f (by rfl) (by rfl) (by rfl) (by rfl) eqokh gdh (Nm.len (n := 36) (by with_reducible first | exact Nm.F2 _ | exact Nm.F6 _ | assumption | exact nm_N36d | exact nm_Z36 | exact nm_O36l | exact nm_V36d | exact nm_C36d | exact nm_X36d | (refine Nm.seg (m := 36) ?_ (by decide); assumption) | exact Nm.seg (m := 36) (Nm.F6 _) (by decide) | exact Nm.app3 (.F2 _) (.F2 _) (.F2 _) | fail)) (Nm.len (n := 36) (by with_reducible first | exact Nm.F2 _ | exact Nm.F6 _ | assumption | exact nm_N36d | exact nm_Z36 | exact nm_O36l | exact nm_V36d | exact nm_C36d | exact nm_X36d | (refine Nm.seg (m := 36) ?_ (by decide); assumption) | exact Nm.seg (m := 36) (Nm.F6 _) (by decide) | exact Nm.app3 (.F2 _) (.F2 _) (.F2 _) | fail)) (by with_reducible first | assumption | exact hx1.out) ?_
    | refine take_neq_f (by rfl) (by rfl) (by rfl) (by rfl) eqokh gdh (Nm.len (n := 36) (by with_reducible first | exact Nm.F2 _ | exact Nm.F6 _ | assumption | exact nm_N36d | exact nm_Z36 | exact nm_O36l | exact nm_V36d | exact nm_C36d | exact nm_X36d | (refine Nm.seg (m := 36) ?_ (by decide); assumption) | exact Nm.seg (m := 36) (Nm.F6 _) (by decide) | exact Nm.app3 (.F2 _) (.F2 _) (.F2 _) | fail)) (Nm.len (n := 36) (by with_reducible first | exact Nm.F2 _ | exact Nm.F6 _ | assumption | exact nm_N36d | exact nm_Z36 | exact nm_O36l | exact nm_V36d | exact nm_C36d | exact nm_X36d | (refine Nm.seg (m := 36) ?_ (by decide); assumption) | exact Nm.seg (m := 36) (Nm.F6 _) (by decide) | exact Nm.app3 (.F2 _) (.F2 _) (.F2 _) | fail)) (by with_reducible first | assumption | exact hx1.out) ?_
    | refine take_load (by rfl) 26 (by rfl) (g := S) (n := 12) (by rfl) (t := 28) (xs := a) (fun w hw => hw.has qa8 (Nat.ne_of_lt qa8.lt)) Tryd.underlying26 rfl (by kernel_rfl) (by rw [ha.len]; decide) ?_
    | refine take_loadw (by rfl) 28 (by rfl) (g := S) (n := 36) (by rfl) (t := 28) (xs := a) (fun w hw => hw.has qa8 (Nat.ne_of_lt qa8.lt)) Tryd.underlying28 rfl (by kernel_rfl) ha.len ?_
    | refine take_load (by rfl) 26 (by rfl) (g := S + 1) (n := 12) (by rfl) (t := 28) (xs := b) (fun w hw => hw.has qb8 (Nat.ne_of_lt qb8.lt)) Tryd.underlying26 rfl (by kernel_rfl) (by rw [hb.len]; decide) ?_
    | refine take_loadw (by rfl) 28 (by rfl) (g := S + 1) (n := 36) (by rfl) (t := 28) (xs := b) (fun w hw => hw.has qb8 (Nat.ne_of_lt qb8.lt)) Tryd.underlying28 rfl (by kernel_rfl) hb.len ?_
    | refine take_load (by rfl) 26 (by rfl) (g := w1.heap.size) (n := 12) (by rfl) (t := 28) (xs := N36d) (fun w hw => hw.has qz8 (Nat.ne_of_lt qz8.lt)) Tryd.underlying26 rfl (by kernel_rfl) (by rw [(show List.length N36d = 36 from rfl)]; decide) ?_
    | refine take_loadw (by rfl) 28 (by rfl) (g := w1.heap.size) (n := 36) (by rfl) (t := 28) (xs := N36d) (fun w hw => hw.has qz8 (Nat.ne_of_lt qz8.lt)) Tryd.underlying28 rfl (by kernel_rfl) (show List.length N36d = 36 from rfl) ?_
    | refine take_load (by rfl) 26 (by rfl) (g := w3.heap.size) (n := 12) (by rfl) (t := 28) (xs := (F6 (Fp6.hi (v6 a)))) (fun w hw => hw.has qi8 (Nat.ne_of_lt qi8.lt)) Tryd.underlying26 rfl (by kernel_rfl) (by rw [(Nm.F6 _).len]; decide) ?_
    | refine take_loadw (by rfl) 28 (by rfl) (g := w3.heap.size) (n := 36) (by rfl) (t := 28) (xs := (F6 (Fp6.hi (v6 a)))) (fun w hw => hw.has qi8 (Nat.ne_of_lt qi8.lt)) Tryd.underlying28 rfl (by kernel_rfl) (Nm.F6 _).len ?_
    | refine take_load (by rfl) 26 (by rfl) (g := w5.heap.size) (n := 12) (by rfl) (t := 28) (xs := (F6 (v6 a))) (fun w hw => hw.has qx8 (Nat.ne_of_lt qx8.lt)) Tryd.underlying26 rfl (by kernel_rfl) (by rw [(Nm.F6 _).len]; decide) ?_
    | refine take_loadw (by rfl) 28 (by rfl) (g := w5.heap.size) (n := 36) (by rfl) (t := 28) (xs := (F6 (v6 a))) (fun w hw => hw.has qx8 (Nat.ne_of_lt qx8.lt)) Tryd.underlying28 rfl (by kernel_rfl) (Nm.F6 _).len ?_
    | refine wpTake_cons (.inl ⟨by rfl, fun w hw => (by unfold Oper.quietAt; go_simp; (first | with_reducible refine lRed6 _ ?_ _ (HG.out _ (hb8.trans (hw.below (HSS.out _ hb8) (HSS.out _ hb8)))) | with_reducible refine lAdd6 _ ?_ _ ?_ _ (HG.out _ (hb8.trans (hw.below (HSS.out _ hb8) (HSS.out _ hb8)))) | with_reducible refine lSub6 _ ?_ _ ?_ _ (HG.out _ (hb8.trans (hw.below (HSS.out _ hb8) (HSS.out _ hb8)))) | with_reducible refine lNeg6 _ ?_ _ (HG.out _ (hb8.trans (hw.below (HSS.out _ hb8) (HSS.out _ hb8)))) | with_reducible refine lMul6 _ ?_ _ ?_ _ (HG.out _ (hb8.trans (hw.below (HSS.out _ hb8) (HSS.out _ hb8)))) | with_reducible refine lInv6 _ ?_ _ (HD.out _ (hb8.trans (hw.below (HSS.out _ hb8) (HSS.out _ hb8)))) | with_reducible refine lScale6 _ ?_ _ ?_ _ (HG.out _ (hb8.trans (hw.below (HSS.out _ hb8) (HSS.out _ hb8)))) | with_reducible refine lV6 _ ?_ _ (HG.out _ (hb8.trans (hw.below (HSS.out _ hb8) (HSS.out _ hb8)))) | with_reducible refine one_c _) <;> (with_reducible first | exact Nm.F2 _ | exact Nm.F6 _ | assumption | exact nm_N36d | exact nm_Z36 | exact nm_O36l | exact nm_V36d | exact nm_C36d | exact nm_X36d | (refine Nm.seg (m := 36) ?_ (by decide); assumption) | exact Nm.seg (m := 36) (Nm.F6 _) (by decide) | exact Nm.app3 (.F2 _) (.F2 _) (.F2 _) | fail))⟩) ?_
    | refine take_skip (by rfl) ?_
    | refine wpTake_cons (Steady.of_yields (Or.inl ⟨by rfl, fun w => (by first | (go_simp; done) | (go_simp; with_reducible rfl))⟩)) ?_); simp only [List.getElem_toArray, List.getElem_cons_zero, List.getElem_cons_succ, Act.put, List.setIfInBounds_toArray, List.set_cons_zero, List.set_cons_succ])
  refine wpTake_nil ?_
  refine wpAnyU_end (by kernel_rfl) (fun w9 hq0 => ?_)
  have hq := (drawn_below w8).trans hq0
  have qa9 := qa8.keep hq
  have qb9 := qb8.keep hq
  have qz9 := qz8.keep hq
  have qi9 := qi8.keep hq
  have qx9 := qx8.keep hq
  have hb9 := hb8.trans (hq.mono (HSS.out _ hb8))
  clear hq0 hq hb8 qa8 qb8 qz8 qi8 qx8
  go_wp2
  go_ret
  exact ⟨rfl, hb9⟩

set_option maxRecDepth 100000 in
set_option maxHeartbeats 4000000 in
theorem inverse_b1 (a : List Int) (ha : Nm 36 a) (b : List Int) (hb : Nm 36 b) (w : World) (hG : GlobD w) (hz : ¬ Fp6.Z6 (v6 a)) (hy : ¬ Fp6.Z6 (v6 b)) : Calls Tryd.prog 6 #[.agg (vals .u64 a), .agg (vals .u64 b)] w fun e w' => e = .returned (.bool true) ∧ Below w.heap.size w w' := by
  have hx1 : Keep (F6 (v6 a) ≠ N36d) := ⟨fun h => hz ((Fz _).1 h)⟩
  have hm1 : Keep (F6 (Fp6.hm (v6 a) (v6 (F6 (Fp6.hi (v6 a))))) = O36l) := ⟨by rw [← one_l]; exact F6_eq ((Fp6.hm_congr E6.rfl (v6_F6 _)).trans (Fp6.hm_hi hz))⟩
  have hii : Keep (F6 (Fp6.hi (v6 (F6 (Fp6.hi (v6 a))))) = F6 (v6 a)) := ⟨F6_eq ((Fp6.hi_congr (v6_F6 _)).trans (Fp6.hi_hi hz))⟩
  have hm2 : Keep (F6 (Fp6.hm (v6 a) (v6 b)) ≠ N36d) := ⟨fun h => hy (Fp6.hm_zero ((Fz _).1 h) hz)⟩
  have hb1_ : Keep (F6 (v6 b) ≠ N36d) := ⟨fun h => hy ((Fz _).1 h)⟩
  obtain ⟨S, hS⟩ : ∃ S, w.heap.size = S := ⟨_, rfl⟩
  have qa0 : Has ((w.alloc (.cells (vals .u64 a) 28)).alloc (.cells (vals .u64 b) 28)) (S) 28 (vals .u64 a) := ((Has.new' _ hS.symm _ _).alloc _)
  have qb0 : Has ((w.alloc (.cells (vals .u64 a) 28)).alloc (.cells (vals .u64 b) 28)) (S + 1) 28 (vals .u64 b) := (Has.new' _ (by simp only [World.size_alloc, hS]) _ _)
  have hb0 : Below S w ((w.alloc (.cells (vals .u64 a) 28)).alloc (.cells (vals .u64 b) 28)) := by rw [← hS]; exact (((Below.refl _ _).alloc (Nat.le_refl _) _).alloc (by simp <;> omega) _)
  have hsz0 : ((w.alloc (.cells (vals .u64 a) 28)).alloc (.cells (vals .u64 b) 28)).heap.size = S + 2 := by simp only [World.size_alloc, hS]
  have HSS : Keep (∀ x : World, Below S w x → S ≤ x.heap.size) := ⟨fun x hb => Nat.le_trans (by omega) hb.size⟩
  have HD : Keep (∀ x : World, Below S w x → GlobD x) := ⟨fun x hb => hG.keep (by rw [hS]; exact hb)⟩
  have HG : Keep (∀ x : World, Below S w x → Glob x) := ⟨fun x hb => (HD.out x hb).toGlob⟩
  clear hG
  clear hz hy
  rw [hS]
  go_enter Tryd.func6, Tryd.ntmps6
  go_wp2_with (first
    | (refine store_abs2 (by rfl) 28 (.tmp 8) (.tmp 16) (by rfl) (by rfl) (w5.heap.size) (vals .u64 (F6 (v6 a))) (by rfl) (by rfl) 28 (vals .u64 Fp6.Z36) (Has.new' _ rfl _ _) (by rw [vals_size, (Nm.F6 _).len]; kernel_rfl) (by first | (rw [vals_size, vals_size, (Nm.F6 _).len]; rfl) | rfl) vals_one ?_
       intro w6 qx6 hkeep hbg
       have hbe := ((Below.refl w5.heap.size w5).alloc (Nat.le_refl _) (.cells (vals .u64 Fp6.Z36) 28)).trans hbg
       have Nax := qa5.lt
       have qa6 := qa5.keep hbe
       have Nbx := qb5.lt
       have qb6 := qb5.keep hbe
       have Nzx := qz5.lt
       have qz6 := qz5.keep hbe
       have Nix := qi5.lt
       have qi6 := qi5.keep hbe
       have Mx : S ≤ w5.heap.size := HSS.out _ hb5
       have hb6 := hb5.trans (hbe.mono (HSS.out _ hb5))
       clear hkeep hbg hbe hb5 qa5 qb5 qz5 qi5)
    | (have hq0 := hb4
       clear hq0
       go_at_call 10
       refine (lRed6 a ha _ (HG.out _ hb4)).mono ?_
       rintro e w5 ⟨rfl, hq⟩
       have qa5 := qa4.keep hq
       have qb5 := qb4.keep hq
       have qz5 := qz4.keep hq
       have qi5 := qi4.keep hq
       have hb5 := hb4.trans (hq.mono (HSS.out _ hb4))
       clear hq hb4 qa4 qb4 qz4 qi4)
    | (refine wpList_load_row rfl 28 (.tmp 2) rfl (S) rfl _ _ _ _ qa4.eq Tryd.underlying28 rfl (by rw [vals_size, ha.len]; kernel_rfl) ?_)
    | (refine store_abs2 (by rfl) 28 (.tmp 7) (.tmp 14) (by rfl) (by rfl) (w3.heap.size) (vals .u64 (F6 (Fp6.hi (v6 a)))) (by rfl) (by rfl) 28 (vals .u64 Fp6.Z36) (Has.new' _ rfl _ _) (by rw [vals_size, (Nm.F6 _).len]; kernel_rfl) (by first | (rw [vals_size, vals_size, (Nm.F6 _).len]; rfl) | rfl) vals_one ?_
       intro w4 qi4 hkeep hbg
       have hbe := ((Below.refl w3.heap.size w3).alloc (Nat.le_refl _) (.cells (vals .u64 Fp6.Z36) 28)).trans hbg
       have Nai := qa3.lt
       have qa4 := qa3.keep hbe
       have Nbi := qb3.lt
       have qb4 := qb3.keep hbe
       have Nzi := qz3.lt
       have qz4 := qz3.keep hbe
       have Mi : S ≤ w3.heap.size := HSS.out _ hb3
       have hb4 := hb3.trans (hbe.mono (HSS.out _ hb3))
       clear hkeep hbg hbe hb3 qa3 qb3 qz3)
    | (have hq0 := hb2
       clear hq0
       go_at_call 22
       refine (lInv6 a ha _ (HD.out _ hb2)).mono ?_
       rintro e w3 ⟨rfl, hq⟩
       have qa3 := qa2.keep hq
       have qb3 := qb2.keep hq
       have qz3 := qz2.keep hq
       have hb3 := hb2.trans (hq.mono (HSS.out _ hb2))
       clear hq hb2 qa2 qb2 qz2)
    | (refine wpList_load_row rfl 28 (.tmp 2) rfl (S) rfl _ _ _ _ qa2.eq Tryd.underlying28 rfl (by rw [vals_size, ha.len]; kernel_rfl) ?_)
    | (refine store_abs2 (by rfl) 28 (.tmp 6) (.tmp 12) (by rfl) (by rfl) (w1.heap.size) (vals .u64 N36d) (by rfl) (by rfl) 28 (vals .u64 Fp6.Z36) (Has.new' _ rfl _ _) (by rw [vals_size, (show List.length N36d = 36 from rfl)]; kernel_rfl) (by first | (rw [vals_size, vals_size, (show List.length N36d = 36 from rfl)]; rfl) | rfl) vals_one ?_
       intro w2 qz2 hkeep hbg
       have hbe := ((Below.refl w1.heap.size w1).alloc (Nat.le_refl _) (.cells (vals .u64 Fp6.Z36) 28)).trans hbg
       have Naz := qa1.lt
       have qa2 := qa1.keep hbe
       have Nbz := qb1.lt
       have qb2 := qb1.keep hbe
       have Mz : S ≤ w1.heap.size := HSS.out _ hb1
       have hb2 := hb1.trans (hbe.mono (HSS.out _ hb1))
       clear hkeep hbg hbe hb1 qa1 qb1)
    | (refine wpList_buildTo (by rfl) 28 #[] (by rfl) (some 12) (by rfl) (vals .u64 N36d) (by kernel_rfl) ?_)
    | (have hq0 := hb0
       clear hq0
       go_at_call 9
       refine (awake_c _ (HD.out _ hb0)).mono ?_
       rintro e w1 ⟨rfl, hq⟩
       have qa1 := qa0.keep hq
       have qb1 := qb0.keep hq
       have hb1 := hb0.trans (hq.mono (HSS.out _ hb0))
       clear hq hb0 qa0 qb0))
  refine wp_reads 27 0 w6.heap.size (by kernel_rfl) (by kernel_rfl) (by rfl) (by kernel_rfl) (fun _ _ d _ _ h => by cases d <;> exact h) ?_
  simp only [List.take_succ_cons, List.take_zero]
  repeat ((first
    | refine take_eql_t (by rfl) (by rfl) (by rfl) (by rfl) eqokh gdh (Nm.len (n := 36) (by with_reducible first | exact Nm.F2 _ | exact Nm.F6 _ | assumption | exact nm_N36d | exact nm_Z36 | exact nm_O36l | exact nm_V36d | exact nm_C36d | exact nm_X36d | (refine Nm.seg (m := 36) ?_ (by decide); assumption) | exact Nm.seg (m := 36) (Nm.F6 _) (by decide) | exact Nm.app3 (.F2 _) (.F2 _) (.F2 _) | fail)) (Nm.len (n := 36) (by with_reducible first | exact Nm.F2 _ | exact Nm.F6 _ | assumption | exact nm_N36d | exact nm_Z36 | exact nm_O36l | exact nm_V36d | exact nm_C36d | exact nm_X36d | (refine Nm.seg (m := 36) ?_ (by decide); assumption) | exact Nm.seg (m := 36) (Nm.F6 _) (by decide) | exact Nm.app3 (.F2 _) (.F2 _) (.F2 _) | fail)) (by with_reducible first | rfl | exact hm1.out | exact hii.out) ?_
    | refine take_neq_t (by rfl) (by rfl) (by rfl) (by rfl) eqokh gdh (Nm.len (n := 36) (by with_reducible first | exact Nm.F2 _ | exact Nm.F6 _ | assumption | exact nm_N36d | exact nm_Z36 | exact nm_O36l | exact nm_V36d | exact nm_C36d | exact nm_X36d | (refine Nm.seg (m := 36) ?_ (by decide); assumption) | exact Nm.seg (m := 36) (Nm.F6 _) (by decide) | exact Nm.app3 (.F2 _) (.F2 _) (.F2 _) | fail)) (Nm.len (n := 36) (by with_reducible first | exact Nm.F2 _ | exact Nm.F6 _ | assumption | exact nm_N36d | exact nm_Z36 | exact nm_O36l | exact nm_V36d | exact nm_C36d | exact nm_X36d | (refine Nm.seg (m := 36) ?_ (by decide); assumption) | exact Nm.seg (m := 36) (Nm.F6 _) (by decide) | exact Nm.app3 (.F2 _) (.F2 _) (.F2 _) | fail)) (by with_reducible first | rfl | exact hm1.out | exact hii.out) ?_
    | refine take_eql_f (by rfl) (by rfl) (by rfl) (by rfl) eqokh gdh (Nm.len (n := 36) (by with_reducible first | exact Nm.F2 _ | exact Nm.F6 _ | assumption | exact nm_N36d | exact nm_Z36 | exact nm_O36l | exact nm_V36d | exact nm_C36d | exact nm_X36d | (refine Nm.seg (m := 36) ?_ (by decide); assumption) | exact Nm.seg (m := 36) (Nm.F6 _) (by decide) | exact Nm.app3 (.F2 _) (.F2 _) (.F2 _) | fail)) (Nm.len (n := 36) (by with_reducible first | exact Nm.F2 _ | exact Nm.F6 _ | assumption | exact nm_N36d | exact nm_Z36 | exact nm_O36l | exact nm_V36d | exact nm_C36d | exact nm_X36d | (refine Nm.seg (m := 36) ?_ (by decide); assumption) | exact Nm.seg (m := 36) (Nm.F6 _) (by decide) | exact Nm.app3 (.F2 _) (.F2 _) (.F2 _) | fail)) (by with_reducible first | assumption | exact hx1.out | exact hm2.out | exact hb1_.out) ?_
    | refine take_neq_f (by rfl) (by rfl) (by rfl) (by rfl) eqokh gdh (Nm.len (n := 36) (by with_reducible first | exact Nm.F2 _ | exact Nm.F6 _ | assumption | exact nm_N36d | exact nm_Z36 | exact nm_O36l | exact nm_V36d | exact nm_C36d | exact nm_X36d | (refine Nm.seg (m := 36) ?_ (by decide); assumption) | exact Nm.seg (m := 36) (Nm.F6 _) (by decide) | exact Nm.app3 (.F2 _) (.F2 _) (.F2 _) | fail)) (Nm.len (n := 36) (by with_reducible first | exact Nm.F2 _ | exact Nm.F6 _ | assumption | exact nm_N36d | exact nm_Z36 | exact nm_O36l | exact nm_V36d | exact nm_C36d | exact nm_X36d | (refine Nm.seg (m := 36) ?_ (by decide); assumption) | exact Nm.seg (m := 36) (Nm.F6 _) (by decide) | exact Nm.app3 (.F2 _) (.F2 _) (.F2 _) | fail)) (by with_reducible first | assumption | exact hx1.out | exact hm2.out | exact hb1_.out) ?_
    | refine take_load (by rfl) 26 (by rfl) (g := S) (n := 12) (by rfl) (t := 28) (xs := a) (fun w hw => hw.has qa6 (Nat.ne_of_lt qa6.lt)) Tryd.underlying26 rfl (by kernel_rfl) (by rw [ha.len]; decide) ?_
    | refine take_loadw (by rfl) 28 (by rfl) (g := S) (n := 36) (by rfl) (t := 28) (xs := a) (fun w hw => hw.has qa6 (Nat.ne_of_lt qa6.lt)) Tryd.underlying28 rfl (by kernel_rfl) ha.len ?_
    | refine take_load (by rfl) 26 (by rfl) (g := S + 1) (n := 12) (by rfl) (t := 28) (xs := b) (fun w hw => hw.has qb6 (Nat.ne_of_lt qb6.lt)) Tryd.underlying26 rfl (by kernel_rfl) (by rw [hb.len]; decide) ?_
    | refine take_loadw (by rfl) 28 (by rfl) (g := S + 1) (n := 36) (by rfl) (t := 28) (xs := b) (fun w hw => hw.has qb6 (Nat.ne_of_lt qb6.lt)) Tryd.underlying28 rfl (by kernel_rfl) hb.len ?_
    | refine take_load (by rfl) 26 (by rfl) (g := w1.heap.size) (n := 12) (by rfl) (t := 28) (xs := N36d) (fun w hw => hw.has qz6 (Nat.ne_of_lt qz6.lt)) Tryd.underlying26 rfl (by kernel_rfl) (by rw [(show List.length N36d = 36 from rfl)]; decide) ?_
    | refine take_loadw (by rfl) 28 (by rfl) (g := w1.heap.size) (n := 36) (by rfl) (t := 28) (xs := N36d) (fun w hw => hw.has qz6 (Nat.ne_of_lt qz6.lt)) Tryd.underlying28 rfl (by kernel_rfl) (show List.length N36d = 36 from rfl) ?_
    | refine take_load (by rfl) 26 (by rfl) (g := w3.heap.size) (n := 12) (by rfl) (t := 28) (xs := (F6 (Fp6.hi (v6 a)))) (fun w hw => hw.has qi6 (Nat.ne_of_lt qi6.lt)) Tryd.underlying26 rfl (by kernel_rfl) (by rw [(Nm.F6 _).len]; decide) ?_
    | refine take_loadw (by rfl) 28 (by rfl) (g := w3.heap.size) (n := 36) (by rfl) (t := 28) (xs := (F6 (Fp6.hi (v6 a)))) (fun w hw => hw.has qi6 (Nat.ne_of_lt qi6.lt)) Tryd.underlying28 rfl (by kernel_rfl) (Nm.F6 _).len ?_
    | refine take_load (by rfl) 26 (by rfl) (g := w5.heap.size) (n := 12) (by rfl) (t := 28) (xs := (F6 (v6 a))) (fun w hw => hw.has qx6 (Nat.ne_of_lt qx6.lt)) Tryd.underlying26 rfl (by kernel_rfl) (by rw [(Nm.F6 _).len]; decide) ?_
    | refine take_loadw (by rfl) 28 (by rfl) (g := w5.heap.size) (n := 36) (by rfl) (t := 28) (xs := (F6 (v6 a))) (fun w hw => hw.has qx6 (Nat.ne_of_lt qx6.lt)) Tryd.underlying28 rfl (by kernel_rfl) (Nm.F6 _).len ?_
    | refine wpTake_cons (.inl ⟨by rfl, fun w hw => (by unfold Oper.quietAt; go_simp; (first | with_reducible refine lRed6 _ ?_ _ (HG.out _ (hb6.trans (hw.below (HSS.out _ hb6) (HSS.out _ hb6)))) | with_reducible refine lAdd6 _ ?_ _ ?_ _ (HG.out _ (hb6.trans (hw.below (HSS.out _ hb6) (HSS.out _ hb6)))) | with_reducible refine lSub6 _ ?_ _ ?_ _ (HG.out _ (hb6.trans (hw.below (HSS.out _ hb6) (HSS.out _ hb6)))) | with_reducible refine lNeg6 _ ?_ _ (HG.out _ (hb6.trans (hw.below (HSS.out _ hb6) (HSS.out _ hb6)))) | with_reducible refine lMul6 _ ?_ _ ?_ _ (HG.out _ (hb6.trans (hw.below (HSS.out _ hb6) (HSS.out _ hb6)))) | with_reducible refine lInv6 _ ?_ _ (HD.out _ (hb6.trans (hw.below (HSS.out _ hb6) (HSS.out _ hb6)))) | with_reducible refine lScale6 _ ?_ _ ?_ _ (HG.out _ (hb6.trans (hw.below (HSS.out _ hb6) (HSS.out _ hb6)))) | with_reducible refine lV6 _ ?_ _ (HG.out _ (hb6.trans (hw.below (HSS.out _ hb6) (HSS.out _ hb6)))) | with_reducible refine one_c _) <;> (with_reducible first | exact Nm.F2 _ | exact Nm.F6 _ | assumption | exact nm_N36d | exact nm_Z36 | exact nm_O36l | exact nm_V36d | exact nm_C36d | exact nm_X36d | (refine Nm.seg (m := 36) ?_ (by decide); assumption) | exact Nm.seg (m := 36) (Nm.F6 _) (by decide) | exact Nm.app3 (.F2 _) (.F2 _) (.F2 _) | fail))⟩) ?_
    | refine take_skip (by rfl) ?_
    | refine wpTake_cons (Steady.of_yields (Or.inl ⟨by rfl, fun w => (by first | (go_simp; done) | (go_simp; with_reducible rfl))⟩)) ?_); simp only [List.getElem_toArray, List.getElem_cons_zero, List.getElem_cons_succ, Act.put, List.setIfInBounds_toArray, List.set_cons_zero, List.set_cons_succ])
  refine wpTake_nil ?_
  refine wpAnyU_end (by kernel_rfl) (fun w7 hq0 => ?_)
  have hq := (drawn_below w6).trans hq0
  have qa7 := qa6.keep hq
  have qb7 := qb6.keep hq
  have qz7 := qz6.keep hq
  have qi7 := qi6.keep hq
  have qx7 := qx6.keep hq
  have hb7 := hb6.trans (hq.mono (HSS.out _ hb6))
  clear hq0 hq hb6 qa6 qb6 qz6 qi6 qx6
  go_wp2
  refine wp_reads 6 0 w7.heap.size (by kernel_rfl) (by kernel_rfl) (by rfl) (by kernel_rfl) (fun _ _ d _ _ h => by cases d <;> exact h) ?_
  simp only [List.take_succ_cons, List.take_zero]
  repeat ((first
    | refine take_eql_t (by rfl) (by rfl) (by rfl) (by rfl) eqokh gdh (Nm.len (n := 36) (by with_reducible first | exact Nm.F2 _ | exact Nm.F6 _ | assumption | exact nm_N36d | exact nm_Z36 | exact nm_O36l | exact nm_V36d | exact nm_C36d | exact nm_X36d | (refine Nm.seg (m := 36) ?_ (by decide); assumption) | exact Nm.seg (m := 36) (Nm.F6 _) (by decide) | exact Nm.app3 (.F2 _) (.F2 _) (.F2 _) | fail)) (Nm.len (n := 36) (by with_reducible first | exact Nm.F2 _ | exact Nm.F6 _ | assumption | exact nm_N36d | exact nm_Z36 | exact nm_O36l | exact nm_V36d | exact nm_C36d | exact nm_X36d | (refine Nm.seg (m := 36) ?_ (by decide); assumption) | exact Nm.seg (m := 36) (Nm.F6 _) (by decide) | exact Nm.app3 (.F2 _) (.F2 _) (.F2 _) | fail)) (by with_reducible first | rfl | exact hm1.out | exact hii.out) ?_
    | refine take_neq_t (by rfl) (by rfl) (by rfl) (by rfl) eqokh gdh (Nm.len (n := 36) (by with_reducible first | exact Nm.F2 _ | exact Nm.F6 _ | assumption | exact nm_N36d | exact nm_Z36 | exact nm_O36l | exact nm_V36d | exact nm_C36d | exact nm_X36d | (refine Nm.seg (m := 36) ?_ (by decide); assumption) | exact Nm.seg (m := 36) (Nm.F6 _) (by decide) | exact Nm.app3 (.F2 _) (.F2 _) (.F2 _) | fail)) (Nm.len (n := 36) (by with_reducible first | exact Nm.F2 _ | exact Nm.F6 _ | assumption | exact nm_N36d | exact nm_Z36 | exact nm_O36l | exact nm_V36d | exact nm_C36d | exact nm_X36d | (refine Nm.seg (m := 36) ?_ (by decide); assumption) | exact Nm.seg (m := 36) (Nm.F6 _) (by decide) | exact Nm.app3 (.F2 _) (.F2 _) (.F2 _) | fail)) (by with_reducible first | rfl | exact hm1.out | exact hii.out) ?_
    | refine take_eql_f (by rfl) (by rfl) (by rfl) (by rfl) eqokh gdh (Nm.len (n := 36) (by with_reducible first | exact Nm.F2 _ | exact Nm.F6 _ | assumption | exact nm_N36d | exact nm_Z36 | exact nm_O36l | exact nm_V36d | exact nm_C36d | exact nm_X36d | (refine Nm.seg (m := 36) ?_ (by decide); assumption) | exact Nm.seg (m := 36) (Nm.F6 _) (by decide) | exact Nm.app3 (.F2 _) (.F2 _) (.F2 _) | fail)) (Nm.len (n := 36) (by with_reducible first | exact Nm.F2 _ | exact Nm.F6 _ | assumption | exact nm_N36d | exact nm_Z36 | exact nm_O36l | exact nm_V36d | exact nm_C36d | exact nm_X36d | (refine Nm.seg (m := 36) ?_ (by decide); assumption) | exact Nm.seg (m := 36) (Nm.F6 _) (by decide) | exact Nm.app3 (.F2 _) (.F2 _) (.F2 _) | fail)) (by with_reducible first | assumption | exact hx1.out | exact hm2.out | exact hb1_.out) ?_
    | refine take_neq_f (by rfl) (by rfl) (by rfl) (by rfl) eqokh gdh (Nm.len (n := 36) (by with_reducible first | exact Nm.F2 _ | exact Nm.F6 _ | assumption | exact nm_N36d | exact nm_Z36 | exact nm_O36l | exact nm_V36d | exact nm_C36d | exact nm_X36d | (refine Nm.seg (m := 36) ?_ (by decide); assumption) | exact Nm.seg (m := 36) (Nm.F6 _) (by decide) | exact Nm.app3 (.F2 _) (.F2 _) (.F2 _) | fail)) (Nm.len (n := 36) (by with_reducible first | exact Nm.F2 _ | exact Nm.F6 _ | assumption | exact nm_N36d | exact nm_Z36 | exact nm_O36l | exact nm_V36d | exact nm_C36d | exact nm_X36d | (refine Nm.seg (m := 36) ?_ (by decide); assumption) | exact Nm.seg (m := 36) (Nm.F6 _) (by decide) | exact Nm.app3 (.F2 _) (.F2 _) (.F2 _) | fail)) (by with_reducible first | assumption | exact hx1.out | exact hm2.out | exact hb1_.out) ?_
    | refine take_load (by rfl) 26 (by rfl) (g := S) (n := 12) (by rfl) (t := 28) (xs := a) (fun w hw => hw.has qa7 (Nat.ne_of_lt qa7.lt)) Tryd.underlying26 rfl (by kernel_rfl) (by rw [ha.len]; decide) ?_
    | refine take_loadw (by rfl) 28 (by rfl) (g := S) (n := 36) (by rfl) (t := 28) (xs := a) (fun w hw => hw.has qa7 (Nat.ne_of_lt qa7.lt)) Tryd.underlying28 rfl (by kernel_rfl) ha.len ?_
    | refine take_load (by rfl) 26 (by rfl) (g := S + 1) (n := 12) (by rfl) (t := 28) (xs := b) (fun w hw => hw.has qb7 (Nat.ne_of_lt qb7.lt)) Tryd.underlying26 rfl (by kernel_rfl) (by rw [hb.len]; decide) ?_
    | refine take_loadw (by rfl) 28 (by rfl) (g := S + 1) (n := 36) (by rfl) (t := 28) (xs := b) (fun w hw => hw.has qb7 (Nat.ne_of_lt qb7.lt)) Tryd.underlying28 rfl (by kernel_rfl) hb.len ?_
    | refine take_load (by rfl) 26 (by rfl) (g := w1.heap.size) (n := 12) (by rfl) (t := 28) (xs := N36d) (fun w hw => hw.has qz7 (Nat.ne_of_lt qz7.lt)) Tryd.underlying26 rfl (by kernel_rfl) (by rw [(show List.length N36d = 36 from rfl)]; decide) ?_
    | refine take_loadw (by rfl) 28 (by rfl) (g := w1.heap.size) (n := 36) (by rfl) (t := 28) (xs := N36d) (fun w hw => hw.has qz7 (Nat.ne_of_lt qz7.lt)) Tryd.underlying28 rfl (by kernel_rfl) (show List.length N36d = 36 from rfl) ?_
    | refine take_load (by rfl) 26 (by rfl) (g := w3.heap.size) (n := 12) (by rfl) (t := 28) (xs := (F6 (Fp6.hi (v6 a)))) (fun w hw => hw.has qi7 (Nat.ne_of_lt qi7.lt)) Tryd.underlying26 rfl (by kernel_rfl) (by rw [(Nm.F6 _).len]; decide) ?_
    | refine take_loadw (by rfl) 28 (by rfl) (g := w3.heap.size) (n := 36) (by rfl) (t := 28) (xs := (F6 (Fp6.hi (v6 a)))) (fun w hw => hw.has qi7 (Nat.ne_of_lt qi7.lt)) Tryd.underlying28 rfl (by kernel_rfl) (Nm.F6 _).len ?_
    | refine take_load (by rfl) 26 (by rfl) (g := w5.heap.size) (n := 12) (by rfl) (t := 28) (xs := (F6 (v6 a))) (fun w hw => hw.has qx7 (Nat.ne_of_lt qx7.lt)) Tryd.underlying26 rfl (by kernel_rfl) (by rw [(Nm.F6 _).len]; decide) ?_
    | refine take_loadw (by rfl) 28 (by rfl) (g := w5.heap.size) (n := 36) (by rfl) (t := 28) (xs := (F6 (v6 a))) (fun w hw => hw.has qx7 (Nat.ne_of_lt qx7.lt)) Tryd.underlying28 rfl (by kernel_rfl) (Nm.F6 _).len ?_
    | refine wpTake_cons (.inl ⟨by rfl, fun w hw => (by unfold Oper.quietAt; go_simp; (first | with_reducible refine lRed6 _ ?_ _ (HG.out _ (hb7.trans (hw.below (HSS.out _ hb7) (HSS.out _ hb7)))) | with_reducible refine lAdd6 _ ?_ _ ?_ _ (HG.out _ (hb7.trans (hw.below (HSS.out _ hb7) (HSS.out _ hb7)))) | with_reducible refine lSub6 _ ?_ _ ?_ _ (HG.out _ (hb7.trans (hw.below (HSS.out _ hb7) (HSS.out _ hb7)))) | with_reducible refine lNeg6 _ ?_ _ (HG.out _ (hb7.trans (hw.below (HSS.out _ hb7) (HSS.out _ hb7)))) | with_reducible refine lMul6 _ ?_ _ ?_ _ (HG.out _ (hb7.trans (hw.below (HSS.out _ hb7) (HSS.out _ hb7)))) | with_reducible refine lInv6 _ ?_ _ (HD.out _ (hb7.trans (hw.below (HSS.out _ hb7) (HSS.out _ hb7)))) | with_reducible refine lScale6 _ ?_ _ ?_ _ (HG.out _ (hb7.trans (hw.below (HSS.out _ hb7) (HSS.out _ hb7)))) | with_reducible refine lV6 _ ?_ _ (HG.out _ (hb7.trans (hw.below (HSS.out _ hb7) (HSS.out _ hb7)))) | with_reducible refine one_c _) <;> (with_reducible first | exact Nm.F2 _ | exact Nm.F6 _ | assumption | exact nm_N36d | exact nm_Z36 | exact nm_O36l | exact nm_V36d | exact nm_C36d | exact nm_X36d | (refine Nm.seg (m := 36) ?_ (by decide); assumption) | exact Nm.seg (m := 36) (Nm.F6 _) (by decide) | exact Nm.app3 (.F2 _) (.F2 _) (.F2 _) | fail))⟩) ?_
    | refine take_skip (by rfl) ?_
    | refine wpTake_cons (Steady.of_yields (Or.inl ⟨by rfl, fun w => (by first | (go_simp; done) | (go_simp; with_reducible rfl))⟩)) ?_); simp only [List.getElem_toArray, List.getElem_cons_zero, List.getElem_cons_succ, Act.put, List.setIfInBounds_toArray, List.set_cons_zero, List.set_cons_succ])
  refine wpTake_nil ?_
  refine wpAnyU_end (by kernel_rfl) (fun w8 hq0 => ?_)
  have hq := (drawn_below w7).trans hq0
  have qa8 := qa7.keep hq
  have qb8 := qb7.keep hq
  have qz8 := qz7.keep hq
  have qi8 := qi7.keep hq
  have qx8 := qx7.keep hq
  have hb8 := hb7.trans (hq.mono (HSS.out _ hb7))
  clear hq0 hq hb7 qa7 qb7 qz7 qi7 qx7
  go_wp2
  refine wp_reads 18 0 w8.heap.size (by kernel_rfl) (by kernel_rfl) (by rfl) (by kernel_rfl) (fun _ _ d _ _ h => by cases d <;> exact h) ?_
  simp only [List.take_succ_cons, List.take_zero]
  repeat ((first
    | refine take_eql_t (by rfl) (by rfl) (by rfl) (by rfl) eqokh gdh (Nm.len (n := 36) (by with_reducible first | exact Nm.F2 _ | exact Nm.F6 _ | assumption | exact nm_N36d | exact nm_Z36 | exact nm_O36l | exact nm_V36d | exact nm_C36d | exact nm_X36d | (refine Nm.seg (m := 36) ?_ (by decide); assumption) | exact Nm.seg (m := 36) (Nm.F6 _) (by decide) | exact Nm.app3 (.F2 _) (.F2 _) (.F2 _) | fail)) (Nm.len (n := 36) (by with_reducible first | exact Nm.F2 _ | exact Nm.F6 _ | assumption | exact nm_N36d | exact nm_Z36 | exact nm_O36l | exact nm_V36d | exact nm_C36d | exact nm_X36d | (refine Nm.seg (m := 36) ?_ (by decide); assumption) | exact Nm.seg (m := 36) (Nm.F6 _) (by decide) | exact Nm.app3 (.F2 _) (.F2 _) (.F2 _) | fail)) (by with_reducible first | rfl | exact hm1.out | exact hii.out) ?_
    | refine take_neq_t (by rfl) (by rfl) (by rfl) (by rfl) eqokh gdh (Nm.len (n := 36) (by with_reducible first | exact Nm.F2 _ | exact Nm.F6 _ | assumption | exact nm_N36d | exact nm_Z36 | exact nm_O36l | exact nm_V36d | exact nm_C36d | exact nm_X36d | (refine Nm.seg (m := 36) ?_ (by decide); assumption) | exact Nm.seg (m := 36) (Nm.F6 _) (by decide) | exact Nm.app3 (.F2 _) (.F2 _) (.F2 _) | fail)) (Nm.len (n := 36) (by with_reducible first | exact Nm.F2 _ | exact Nm.F6 _ | assumption | exact nm_N36d | exact nm_Z36 | exact nm_O36l | exact nm_V36d | exact nm_C36d | exact nm_X36d | (refine Nm.seg (m := 36) ?_ (by decide); assumption) | exact Nm.seg (m := 36) (Nm.F6 _) (by decide) | exact Nm.app3 (.F2 _) (.F2 _) (.F2 _) | fail)) (by with_reducible first | rfl | exact hm1.out | exact hii.out) ?_
    | refine take_eql_f (by rfl) (by rfl) (by rfl) (by rfl) eqokh gdh (Nm.len (n := 36) (by with_reducible first | exact Nm.F2 _ | exact Nm.F6 _ | assumption | exact nm_N36d | exact nm_Z36 | exact nm_O36l | exact nm_V36d | exact nm_C36d | exact nm_X36d | (refine Nm.seg (m := 36) ?_ (by decide); assumption) | exact Nm.seg (m := 36) (Nm.F6 _) (by decide) | exact Nm.app3 (.F2 _) (.F2 _) (.F2 _) | fail)) (Nm.len (n := 36) (by with_reducible first | exact Nm.F2 _ | exact Nm.F6 _ | assumption | exact nm_N36d | exact nm_Z36 | exact nm_O36l | exact nm_V36d | exact nm_C36d | exact nm_X36d | (refine Nm.seg (m := 36) ?_ (by decide); assumption) | exact Nm.seg (m := 36) (Nm.F6 _) (by decide) | exact Nm.app3 (.F2 _) (.F2 _) (.F2 _) | fail)) (by with_reducible first | assumption | exact hx1.out | exact hm2.out | exact hb1_.out) ?_
    | refine take_neq_f (by rfl) (by rfl) (by rfl) (by rfl) eqokh gdh (Nm.len (n := 36) (by with_reducible first | exact Nm.F2 _ | exact Nm.F6 _ | assumption | exact nm_N36d | exact nm_Z36 | exact nm_O36l | exact nm_V36d | exact nm_C36d | exact nm_X36d | (refine Nm.seg (m := 36) ?_ (by decide); assumption) | exact Nm.seg (m := 36) (Nm.F6 _) (by decide) | exact Nm.app3 (.F2 _) (.F2 _) (.F2 _) | fail)) (Nm.len (n := 36) (by with_reducible first | exact Nm.F2 _ | exact Nm.F6 _ | assumption | exact nm_N36d | exact nm_Z36 | exact nm_O36l | exact nm_V36d | exact nm_C36d | exact nm_X36d | (refine Nm.seg (m := 36) ?_ (by decide); assumption) | exact Nm.seg (m := 36) (Nm.F6 _) (by decide) | exact Nm.app3 (.F2 _) (.F2 _) (.F2 _) | fail)) (by with_reducible first | assumption | exact hx1.out | exact hm2.out | exact hb1_.out) ?_
    | refine take_load (by rfl) 26 (by rfl) (g := S) (n := 12) (by rfl) (t := 28) (xs := a) (fun w hw => hw.has qa8 (Nat.ne_of_lt qa8.lt)) Tryd.underlying26 rfl (by kernel_rfl) (by rw [ha.len]; decide) ?_
    | refine take_loadw (by rfl) 28 (by rfl) (g := S) (n := 36) (by rfl) (t := 28) (xs := a) (fun w hw => hw.has qa8 (Nat.ne_of_lt qa8.lt)) Tryd.underlying28 rfl (by kernel_rfl) ha.len ?_
    | refine take_load (by rfl) 26 (by rfl) (g := S + 1) (n := 12) (by rfl) (t := 28) (xs := b) (fun w hw => hw.has qb8 (Nat.ne_of_lt qb8.lt)) Tryd.underlying26 rfl (by kernel_rfl) (by rw [hb.len]; decide) ?_
    | refine take_loadw (by rfl) 28 (by rfl) (g := S + 1) (n := 36) (by rfl) (t := 28) (xs := b) (fun w hw => hw.has qb8 (Nat.ne_of_lt qb8.lt)) Tryd.underlying28 rfl (by kernel_rfl) hb.len ?_
    | refine take_load (by rfl) 26 (by rfl) (g := w1.heap.size) (n := 12) (by rfl) (t := 28) (xs := N36d) (fun w hw => hw.has qz8 (Nat.ne_of_lt qz8.lt)) Tryd.underlying26 rfl (by kernel_rfl) (by rw [(show List.length N36d = 36 from rfl)]; decide) ?_
    | refine take_loadw (by rfl) 28 (by rfl) (g := w1.heap.size) (n := 36) (by rfl) (t := 28) (xs := N36d) (fun w hw => hw.has qz8 (Nat.ne_of_lt qz8.lt)) Tryd.underlying28 rfl (by kernel_rfl) (show List.length N36d = 36 from rfl) ?_
    | refine take_load (by rfl) 26 (by rfl) (g := w3.heap.size) (n := 12) (by rfl) (t := 28) (xs := (F6 (Fp6.hi (v6 a)))) (fun w hw => hw.has qi8 (Nat.ne_of_lt qi8.lt)) Tryd.underlying26 rfl (by kernel_rfl) (by rw [(Nm.F6 _).len]; decide) ?_
    | refine take_loadw (by rfl) 28 (by rfl) (g := w3.heap.size) (n := 36) (by rfl) (t := 28) (xs := (F6 (Fp6.hi (v6 a)))) (fun w hw => hw.has qi8 (Nat.ne_of_lt qi8.lt)) Tryd.underlying28 rfl (by kernel_rfl) (Nm.F6 _).len ?_
    | refine take_load (by rfl) 26 (by rfl) (g := w5.heap.size) (n := 12) (by rfl) (t := 28) (xs := (F6 (v6 a))) (fun w hw => hw.has qx8 (Nat.ne_of_lt qx8.lt)) Tryd.underlying26 rfl (by kernel_rfl) (by rw [(Nm.F6 _).len]; decide) ?_
    | refine take_loadw (by rfl) 28 (by rfl) (g := w5.heap.size) (n := 36) (by rfl) (t := 28) (xs := (F6 (v6 a))) (fun w hw => hw.has qx8 (Nat.ne_of_lt qx8.lt)) Tryd.underlying28 rfl (by kernel_rfl) (Nm.F6 _).len ?_
    | refine wpTake_cons (.inl ⟨by rfl, fun w hw => (by unfold Oper.quietAt; go_simp; (first | with_reducible refine lRed6 _ ?_ _ (HG.out _ (hb8.trans (hw.below (HSS.out _ hb8) (HSS.out _ hb8)))) | with_reducible refine lAdd6 _ ?_ _ ?_ _ (HG.out _ (hb8.trans (hw.below (HSS.out _ hb8) (HSS.out _ hb8)))) | with_reducible refine lSub6 _ ?_ _ ?_ _ (HG.out _ (hb8.trans (hw.below (HSS.out _ hb8) (HSS.out _ hb8)))) | with_reducible refine lNeg6 _ ?_ _ (HG.out _ (hb8.trans (hw.below (HSS.out _ hb8) (HSS.out _ hb8)))) | with_reducible refine lMul6 _ ?_ _ ?_ _ (HG.out _ (hb8.trans (hw.below (HSS.out _ hb8) (HSS.out _ hb8)))) | with_reducible refine lInv6 _ ?_ _ (HD.out _ (hb8.trans (hw.below (HSS.out _ hb8) (HSS.out _ hb8)))) | with_reducible refine lScale6 _ ?_ _ ?_ _ (HG.out _ (hb8.trans (hw.below (HSS.out _ hb8) (HSS.out _ hb8)))) | with_reducible refine lV6 _ ?_ _ (HG.out _ (hb8.trans (hw.below (HSS.out _ hb8) (HSS.out _ hb8)))) | with_reducible refine one_c _) <;> (with_reducible first | exact Nm.F2 _ | exact Nm.F6 _ | assumption | exact nm_N36d | exact nm_Z36 | exact nm_O36l | exact nm_V36d | exact nm_C36d | exact nm_X36d | (refine Nm.seg (m := 36) ?_ (by decide); assumption) | exact Nm.seg (m := 36) (Nm.F6 _) (by decide) | exact Nm.app3 (.F2 _) (.F2 _) (.F2 _) | fail))⟩) ?_
    | refine take_skip (by rfl) ?_
    | refine wpTake_cons (Steady.of_yields (Or.inl ⟨by rfl, fun w => (by first | (go_simp; done) | (go_simp; with_reducible rfl))⟩)) ?_); simp only [List.getElem_toArray, List.getElem_cons_zero, List.getElem_cons_succ, Act.put, List.setIfInBounds_toArray, List.set_cons_zero, List.set_cons_succ])
  refine wpTake_nil ?_
  refine wpAnyU_end (by kernel_rfl) (fun w9 hq0 => ?_)
  have hq := (drawn_below w8).trans hq0
  have qa9 := qa8.keep hq
  have qb9 := qb8.keep hq
  have qz9 := qz8.keep hq
  have qi9 := qi8.keep hq
  have qx9 := qx8.keep hq
  have hb9 := hb8.trans (hq.mono (HSS.out _ hb8))
  clear hq0 hq hb8 qa8 qb8 qz8 qi8 qx8
  go_wp2
  go_ret
  exact ⟨rfl, hb9⟩

set_option maxRecDepth 100000 in
set_option maxHeartbeats 4000000 in
theorem inverse_w (a : List Int) (ha : Nm 36 a) (b : List Int) (hb : Nm 36 b) (w : World) (hG : GlobD w) : Calls Tryd.prog 6 #[.agg (vals .u64 a), .agg (vals .u64 b)] w fun e w' => e = .returned (.bool true) ∧ Below w.heap.size w w' := by
  by_cases hz : Fp6.Z6 (v6 a)
  · exact inverse_zero a ha b hb w hG hz
  · by_cases hy : Fp6.Z6 (v6 b)
    · exact inverse_b0 a ha b hb w hG hz hy
    · exact inverse_b1 a ha b hb w hG hz hy

end Go.Proofs.YtpkbbdhpdplkeaaDoor.Fp6
