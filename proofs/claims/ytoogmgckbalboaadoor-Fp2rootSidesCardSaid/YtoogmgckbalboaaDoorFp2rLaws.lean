/-
  Own text. The walks of layer 8's statements: what is told, squares, sides.
-/
import Derived.Test.YtoogmgckbalboaaDoorFp2rAwake
namespace Go.Proofs.YtoogmgckbalboaaDoor.Fp2r
set_option linter.unusedVariables false
set_option linter.unusedSimpArgs false
open Go Go.RowKit Go.Proofs.YtoogmgckbalboaaDoor.Reg Go.Proofs.YtoogmgckbalboaaDoor.Base Go.Proofs.YtoogmgckbalboaaDoor.Limb Go.Proofs.YtoogmgckbalboaaDoor.Fp Go.Proofs.YtoogmgckbalboaaDoor.Fpr Go.Proofs.YtoogmgckbalboaaDoor.Fp2

set_option maxRecDepth 100000 in
set_option maxHeartbeats 4000000 in
theorem tells_no (a : List Int) (ha : Nm 12 a) (w : World) (hG : GlobD w) (h : gsq (v2 a) = false) : Calls Tryd.prog 3 #[.agg (vals .u64 a)] w fun e w' => e = .returned (.bool true) ∧ Below w.heap.size w w' := by
  obtain ⟨V, hV⟩ : ∃ o, Fp2.Z12 = o := ⟨_, rfl⟩
  have nV : Nm 12 V := hV ▸ (show Nm 12 Fp2.Z12 from nm_Z12)
  have LV : Keep (V.length = 12) := ⟨nV.len⟩
  have P1 : Keep (∀ x : World, GlobD x → Calls Tryd.prog 9 #[.agg (vals .u64 a)] x fun e x' => e = .returned (.tuple #[.agg (vals .u64 V), .bool false]) ∧ Below x.heap.size x x') := ⟨fun x hG => by
    have h9 := lSq_no a ha h x hG
    rwa [hV] at h9⟩
  have P2 : Keep (∀ x : World, Calls Tryd.prog 10 #[.agg (vals .u64 a)] x fun e x' => e = .returned (.tuple #[.agg (vals .u64 V), .bool false]) ∧ Below x.heap.size x x') := ⟨fun x => by
    have h9 := rSq_no a ha h x
    rwa [hV] at h9⟩
  have P3 : Keep (∀ x : World, GlobD x → Calls Tryd.prog 11 #[.agg (vals .u64 a)] x fun e x' => e = .returned (.bool false) ∧ Below x.heap.size x x') := ⟨fun x hG => by
    have h9 := lIs a ha x hG
    rwa [h] at h9⟩
  obtain ⟨s, hs⟩ : ∃ s, sg2 (v2 a) = s := ⟨_, rfl⟩
  obtain ⟨g, hg⟩ : ∃ s, big2 (v2 a) = s := ⟨_, rfl⟩
  have P4 : Keep (∀ x : World, GlobD x → Calls Tryd.prog 12 #[.agg (vals .u64 a)] x fun e x' => e = .returned (.int .i64 s) ∧ Below x.heap.size x x') := ⟨fun x hG => by
    have h9 := lSg a ha x hG
    rwa [hs] at h9⟩
  have P5 : Keep (∀ x : World, Calls Tryd.prog 13 #[.agg (vals .u64 a)] x fun e x' => e = .returned (.int .i64 s) ∧ Below x.heap.size x x') := ⟨fun x => by
    have h9 := rSg a ha x
    rwa [hs] at h9⟩
  have P6 : Keep (∀ x : World, GlobD x → Calls Tryd.prog 14 #[.agg (vals .u64 a)] x fun e x' => e = .returned (.bool g) ∧ Below x.heap.size x x') := ⟨fun x hG => by
    have h9 := lBg a ha x hG
    rwa [hg] at h9⟩
  have P7 : Keep (∀ x : World, Calls Tryd.prog 15 #[.agg (vals .u64 a)] x fun e x' => e = .returned (.bool g) ∧ Below x.heap.size x x') := ⟨fun x => by
    have h9 := rBg a ha x
    rwa [hg] at h9⟩
  obtain ⟨S, hS⟩ : ∃ S, w.heap.size = S := ⟨_, rfl⟩
  have qa0 : Has (w.alloc (.cells (vals .u64 a) 26)) (S) 26 (vals .u64 a) := (Has.new' _ hS.symm _ _)
  have hb0 : Below S w (w.alloc (.cells (vals .u64 a) 26)) := by rw [← hS]; exact ((Below.refl _ _).alloc (Nat.le_refl _) _)
  have hsz0 : (w.alloc (.cells (vals .u64 a) 26)).heap.size = S + 1 := by simp only [World.size_alloc, hS]
  have HSS : Keep (∀ x : World, Below S w x → S ≤ x.heap.size) := ⟨fun x hb => Nat.le_trans (by omega) hb.size⟩
  have HD : Keep (∀ x : World, Below S w x → GlobD x) := ⟨fun x hb => hG.keep (by rw [hS]; exact hb)⟩
  have HG : Keep (∀ x : World, Below S w x → Glob x) := ⟨fun x hb => (HD.out x hb).toGlob⟩
  clear hG
  clear h hV hs hg
  rw [hS]
  go_enter Tryd.func3, Tryd.ntmps3
  go_wp2_with (first
    | (refine store_abs2 (by rfl) 26 (.tmp 6) (.tmp 17) (by rfl) (by rfl) (w4.heap.size) (vals .u64 V) (by rfl) (by rfl) 26 (vals .u64 Fp2.Z12) (Has.new' _ rfl _ _) (by rw [vals_size, LV.out]; kernel_rfl) (by first | (rw [vals_size, vals_size, LV.out]; rfl) | rfl) vals_one ?_
       intro w5 qy5 hkeep hbg
       have hbe := ((Below.refl w4.heap.size w4).alloc (Nat.le_refl _) (.cells (vals .u64 Fp2.Z12) 26)).trans hbg
       have Nay := qa4.lt
       have qa5 := qa4.keep hbe
       have Nxy := qx4.lt
       have qx5 := qx4.keep hbe
       have My : S ≤ w4.heap.size := HSS.out _ hb4
       have hb5 := hb4.trans (hbe.mono (HSS.out _ hb4))
       clear hkeep hbg hbe hb4 qa4 qx4)
    | (have hq0 := hb3
       clear hq0
       go_at_call 10
       refine (P2.out _).mono ?_
       rintro e w4 ⟨rfl, hq⟩
       have qa4 := qa3.keep hq
       have qx4 := qx3.keep hq
       have hb4 := hb3.trans (hq.mono (HSS.out _ hb3))
       clear hq hb3 qa3 qx3)
    | (refine wpList_load_row rfl 26 (.tmp 1) rfl (S) rfl _ _ _ _ qa3.eq Tryd.underlying26 rfl (by rw [vals_size, ha.len]; kernel_rfl) ?_)
    | (refine store_abs2 (by rfl) 26 (.tmp 4) (.tmp 12) (by rfl) (by rfl) (w2.heap.size) (vals .u64 V) (by rfl) (by rfl) 26 (vals .u64 Fp2.Z12) (Has.new' _ rfl _ _) (by rw [vals_size, LV.out]; kernel_rfl) (by first | (rw [vals_size, vals_size, LV.out]; rfl) | rfl) vals_one ?_
       intro w3 qx3 hkeep hbg
       have hbe := ((Below.refl w2.heap.size w2).alloc (Nat.le_refl _) (.cells (vals .u64 Fp2.Z12) 26)).trans hbg
       have Nax := qa2.lt
       have qa3 := qa2.keep hbe
       have Mx : S ≤ w2.heap.size := HSS.out _ hb2
       have hb3 := hb2.trans (hbe.mono (HSS.out _ hb2))
       clear hkeep hbg hbe hb2 qa2)
    | (have hq0 := hb1
       clear hq0
       go_at_call 9
       refine (P1.out _ (HD.out _ hb1)).mono ?_
       rintro e w2 ⟨rfl, hq⟩
       have qa2 := qa1.keep hq
       have hb2 := hb1.trans (hq.mono (HSS.out _ hb1))
       clear hq hb1 qa1)
    | (refine wpList_load_row rfl 26 (.tmp 1) rfl (S) rfl _ _ _ _ qa1.eq Tryd.underlying26 rfl (by rw [vals_size, ha.len]; kernel_rfl) ?_)
    | (have hq0 := hb0
       clear hq0
       go_at_call 8
       refine (awake_c _ (HD.out _ hb0)).mono ?_
       rintro e w1 ⟨rfl, hq⟩
       have qa1 := qa0.keep hq
       have hb1 := hb0.trans (hq.mono (HSS.out _ hb0))
       clear hq hb0 qa0))
  refine wp_reads 32 0 w5.heap.size (by kernel_rfl) (by kernel_rfl) (by rfl) (by kernel_rfl) (fun _ _ d _ _ h => by cases d <;> exact h) ?_
  simp only [List.take_succ_cons, List.take_zero]
  repeat ((first
    | refine take_eql_t (by rfl) (by rfl) (by rfl) (by rfl) eqok2 gd2 (Nm.len (n := 12) (by with_reducible first | exact Nm.fe _ | exact Nm.F2 _ | assumption | exact nm_one | exact nm_Z6 | (refine Nm.seg (m := 12) ?_ (by decide); assumption) | exact Nm.seg (m := 12) (Nm.F2 _) (by decide) | exact Nm.app2 (.fe _) (.fe _) | exact nm_rep | exact nm_Z12 | exact nm_two | (refine Nm.app2 ?_ nm_Z6; assumption) | exact Nm.app2 (.fe _) nm_Z6 | exact Nm.app2 nm_rep nm_one | exact ⟨rfl, words_of _ (by decide)⟩ | fail)) (Nm.len (n := 12) (by with_reducible first | exact Nm.fe _ | exact Nm.F2 _ | assumption | exact nm_one | exact nm_Z6 | (refine Nm.seg (m := 12) ?_ (by decide); assumption) | exact Nm.seg (m := 12) (Nm.F2 _) (by decide) | exact Nm.app2 (.fe _) (.fe _) | exact nm_rep | exact nm_Z12 | exact nm_two | (refine Nm.app2 ?_ nm_Z6; assumption) | exact Nm.app2 (.fe _) nm_Z6 | exact Nm.app2 nm_rep nm_one | exact ⟨rfl, words_of _ (by decide)⟩ | fail)) (by with_reducible first | rfl) ?_
    | refine take_neq_t (by rfl) (by rfl) (by rfl) (by rfl) eqok2 gd2 (Nm.len (n := 12) (by with_reducible first | exact Nm.fe _ | exact Nm.F2 _ | assumption | exact nm_one | exact nm_Z6 | (refine Nm.seg (m := 12) ?_ (by decide); assumption) | exact Nm.seg (m := 12) (Nm.F2 _) (by decide) | exact Nm.app2 (.fe _) (.fe _) | exact nm_rep | exact nm_Z12 | exact nm_two | (refine Nm.app2 ?_ nm_Z6; assumption) | exact Nm.app2 (.fe _) nm_Z6 | exact Nm.app2 nm_rep nm_one | exact ⟨rfl, words_of _ (by decide)⟩ | fail)) (Nm.len (n := 12) (by with_reducible first | exact Nm.fe _ | exact Nm.F2 _ | assumption | exact nm_one | exact nm_Z6 | (refine Nm.seg (m := 12) ?_ (by decide); assumption) | exact Nm.seg (m := 12) (Nm.F2 _) (by decide) | exact Nm.app2 (.fe _) (.fe _) | exact nm_rep | exact nm_Z12 | exact nm_two | (refine Nm.app2 ?_ nm_Z6; assumption) | exact Nm.app2 (.fe _) nm_Z6 | exact Nm.app2 nm_rep nm_one | exact ⟨rfl, words_of _ (by decide)⟩ | fail)) (by with_reducible first | rfl) ?_
    | refine take_eql_f (by rfl) (by rfl) (by rfl) (by rfl) eqok2 gd2 (Nm.len (n := 12) (by with_reducible first | exact Nm.fe _ | exact Nm.F2 _ | assumption | exact nm_one | exact nm_Z6 | (refine Nm.seg (m := 12) ?_ (by decide); assumption) | exact Nm.seg (m := 12) (Nm.F2 _) (by decide) | exact Nm.app2 (.fe _) (.fe _) | exact nm_rep | exact nm_Z12 | exact nm_two | (refine Nm.app2 ?_ nm_Z6; assumption) | exact Nm.app2 (.fe _) nm_Z6 | exact Nm.app2 nm_rep nm_one | exact ⟨rfl, words_of _ (by decide)⟩ | fail)) (Nm.len (n := 12) (by with_reducible first | exact Nm.fe _ | exact Nm.F2 _ | assumption | exact nm_one | exact nm_Z6 | (refine Nm.seg (m := 12) ?_ (by decide); assumption) | exact Nm.seg (m := 12) (Nm.F2 _) (by decide) | exact Nm.app2 (.fe _) (.fe _) | exact nm_rep | exact nm_Z12 | exact nm_two | (refine Nm.app2 ?_ nm_Z6; assumption) | exact Nm.app2 (.fe _) nm_Z6 | exact Nm.app2 nm_rep nm_one | exact ⟨rfl, words_of _ (by decide)⟩ | fail)) (by with_reducible first | assumption) ?_
    | refine take_neq_f (by rfl) (by rfl) (by rfl) (by rfl) eqok2 gd2 (Nm.len (n := 12) (by with_reducible first | exact Nm.fe _ | exact Nm.F2 _ | assumption | exact nm_one | exact nm_Z6 | (refine Nm.seg (m := 12) ?_ (by decide); assumption) | exact Nm.seg (m := 12) (Nm.F2 _) (by decide) | exact Nm.app2 (.fe _) (.fe _) | exact nm_rep | exact nm_Z12 | exact nm_two | (refine Nm.app2 ?_ nm_Z6; assumption) | exact Nm.app2 (.fe _) nm_Z6 | exact Nm.app2 nm_rep nm_one | exact ⟨rfl, words_of _ (by decide)⟩ | fail)) (Nm.len (n := 12) (by with_reducible first | exact Nm.fe _ | exact Nm.F2 _ | assumption | exact nm_one | exact nm_Z6 | (refine Nm.seg (m := 12) ?_ (by decide); assumption) | exact Nm.seg (m := 12) (Nm.F2 _) (by decide) | exact Nm.app2 (.fe _) (.fe _) | exact nm_rep | exact nm_Z12 | exact nm_two | (refine Nm.app2 ?_ nm_Z6; assumption) | exact Nm.app2 (.fe _) nm_Z6 | exact Nm.app2 nm_rep nm_one | exact ⟨rfl, words_of _ (by decide)⟩ | fail)) (by with_reducible first | assumption) ?_
    | (refine wpTake_cons (Steady.of_yields (Or.inl ⟨by rfl, fun w => (by go_simp; exact ⟨rfl, rfl⟩)⟩)) ?_)
    | refine take_load (by rfl) 24 (by rfl) (g := S) (n := 6) (by rfl) (t := 26) (xs := a) (fun w hw => hw.has qa5 (Nat.ne_of_lt qa5.lt)) Tryd.underlying24 rfl (by kernel_rfl) (by rw [ha.len]; decide) ?_
    | refine take_loadw (by rfl) 26 (by rfl) (g := S) (n := 12) (by rfl) (t := 26) (xs := a) (fun w hw => hw.has qa5 (Nat.ne_of_lt qa5.lt)) Tryd.underlying26 rfl (by kernel_rfl) ha.len ?_
    | refine take_load (by rfl) 24 (by rfl) (g := w2.heap.size) (n := 6) (by rfl) (t := 26) (xs := V) (fun w hw => hw.has qx5 (Nat.ne_of_lt qx5.lt)) Tryd.underlying24 rfl (by kernel_rfl) (by rw [LV.out]; decide) ?_
    | refine take_loadw (by rfl) 26 (by rfl) (g := w2.heap.size) (n := 12) (by rfl) (t := 26) (xs := V) (fun w hw => hw.has qx5 (Nat.ne_of_lt qx5.lt)) Tryd.underlying26 rfl (by kernel_rfl) LV.out ?_
    | refine take_load (by rfl) 24 (by rfl) (g := w4.heap.size) (n := 6) (by rfl) (t := 26) (xs := V) (fun w hw => hw.has qy5 (Nat.ne_of_lt qy5.lt)) Tryd.underlying24 rfl (by kernel_rfl) (by rw [LV.out]; decide) ?_
    | refine take_loadw (by rfl) 26 (by rfl) (g := w4.heap.size) (n := 12) (by rfl) (t := 26) (xs := V) (fun w hw => hw.has qy5 (Nat.ne_of_lt qy5.lt)) Tryd.underlying26 rfl (by kernel_rfl) LV.out ?_
    | refine wpTake_cons (.inl ⟨by rfl, fun w hw => (by unfold Oper.quietAt; go_simp; (first | with_reducible refine P3.out _ (HD.out _ (hb5.trans (hw.below (HSS.out _ hb5) (HSS.out _ hb5)))) | with_reducible refine P4.out _ (HD.out _ (hb5.trans (hw.below (HSS.out _ hb5) (HSS.out _ hb5)))) | with_reducible refine P5.out _ | with_reducible refine P6.out _ (HD.out _ (hb5.trans (hw.below (HSS.out _ hb5) (HSS.out _ hb5)))) | with_reducible refine P7.out _) <;> (with_reducible first | exact Nm.fe _ | exact Nm.F2 _ | assumption | exact nm_one | exact nm_Z6 | (refine Nm.seg (m := 12) ?_ (by decide); assumption) | exact Nm.seg (m := 12) (Nm.F2 _) (by decide) | exact Nm.app2 (.fe _) (.fe _) | exact nm_rep | exact nm_Z12 | exact nm_two | (refine Nm.app2 ?_ nm_Z6; assumption) | exact Nm.app2 (.fe _) nm_Z6 | exact Nm.app2 nm_rep nm_one | exact ⟨rfl, words_of _ (by decide)⟩ | fail))⟩) ?_
    | refine take_skip (by rfl) ?_
    | refine wpTake_cons (Steady.of_yields (Or.inl ⟨by rfl, fun w => (by first | (go_simp; done) | (go_simp; with_reducible rfl))⟩)) ?_); simp only [List.getElem_toArray, List.getElem_cons_zero, List.getElem_cons_succ, Act.put, List.setIfInBounds_toArray, List.set_cons_zero, List.set_cons_succ])
  refine wpTake_nil ?_
  refine wpAnyU_end (by kernel_rfl) (fun w6 hq0 => ?_)
  have hq := (drawn_below w5).trans hq0
  have qa6 := qa5.keep hq
  have qx6 := qx5.keep hq
  have qy6 := qy5.keep hq
  have hb6 := hb5.trans (hq.mono (HSS.out _ hb5))
  clear hq0 hq hb5 qa5 qx5 qy5
  go_wp2
  go_ret
  exact ⟨rfl, hb6⟩

set_option maxRecDepth 100000 in
set_option maxHeartbeats 4000000 in
theorem tells_yes (a : List Int) (ha : Nm 12 a) (w : World) (hG : GlobD w) (h : gsq (v2 a) = true) : Calls Tryd.prog 3 #[.agg (vals .u64 a)] w fun e w' => e = .returned (.bool true) ∧ Below w.heap.size w w' := by
  obtain ⟨V, hV⟩ : ∃ o, root2 (v2 a) = o := ⟨_, rfl⟩
  have nV : Nm 12 V := hV ▸ (root2_nm _)
  have LV : Keep (V.length = 12) := ⟨nV.len⟩
  have P1 : Keep (∀ x : World, GlobD x → Calls Tryd.prog 9 #[.agg (vals .u64 a)] x fun e x' => e = .returned (.tuple #[.agg (vals .u64 V), .bool true]) ∧ Below x.heap.size x x') := ⟨fun x hG => by
    have h9 := lSq_yes a ha h x hG
    rwa [hV] at h9⟩
  have P2 : Keep (∀ x : World, Calls Tryd.prog 10 #[.agg (vals .u64 a)] x fun e x' => e = .returned (.tuple #[.agg (vals .u64 V), .bool true]) ∧ Below x.heap.size x x') := ⟨fun x => by
    have h9 := rSq_yes a ha h x
    rwa [hV] at h9⟩
  have P3 : Keep (∀ x : World, GlobD x → Calls Tryd.prog 11 #[.agg (vals .u64 a)] x fun e x' => e = .returned (.bool true) ∧ Below x.heap.size x x') := ⟨fun x hG => by
    have h9 := lIs a ha x hG
    rwa [h] at h9⟩
  obtain ⟨s, hs⟩ : ∃ s, sg2 (v2 a) = s := ⟨_, rfl⟩
  obtain ⟨g, hg⟩ : ∃ s, big2 (v2 a) = s := ⟨_, rfl⟩
  have P4 : Keep (∀ x : World, GlobD x → Calls Tryd.prog 12 #[.agg (vals .u64 a)] x fun e x' => e = .returned (.int .i64 s) ∧ Below x.heap.size x x') := ⟨fun x hG => by
    have h9 := lSg a ha x hG
    rwa [hs] at h9⟩
  have P5 : Keep (∀ x : World, Calls Tryd.prog 13 #[.agg (vals .u64 a)] x fun e x' => e = .returned (.int .i64 s) ∧ Below x.heap.size x x') := ⟨fun x => by
    have h9 := rSg a ha x
    rwa [hs] at h9⟩
  have P6 : Keep (∀ x : World, GlobD x → Calls Tryd.prog 14 #[.agg (vals .u64 a)] x fun e x' => e = .returned (.bool g) ∧ Below x.heap.size x x') := ⟨fun x hG => by
    have h9 := lBg a ha x hG
    rwa [hg] at h9⟩
  have P7 : Keep (∀ x : World, Calls Tryd.prog 15 #[.agg (vals .u64 a)] x fun e x' => e = .returned (.bool g) ∧ Below x.heap.size x x') := ⟨fun x => by
    have h9 := rBg a ha x
    rwa [hg] at h9⟩
  obtain ⟨S, hS⟩ : ∃ S, w.heap.size = S := ⟨_, rfl⟩
  have qa0 : Has (w.alloc (.cells (vals .u64 a) 26)) (S) 26 (vals .u64 a) := (Has.new' _ hS.symm _ _)
  have hb0 : Below S w (w.alloc (.cells (vals .u64 a) 26)) := by rw [← hS]; exact ((Below.refl _ _).alloc (Nat.le_refl _) _)
  have hsz0 : (w.alloc (.cells (vals .u64 a) 26)).heap.size = S + 1 := by simp only [World.size_alloc, hS]
  have HSS : Keep (∀ x : World, Below S w x → S ≤ x.heap.size) := ⟨fun x hb => Nat.le_trans (by omega) hb.size⟩
  have HD : Keep (∀ x : World, Below S w x → GlobD x) := ⟨fun x hb => hG.keep (by rw [hS]; exact hb)⟩
  have HG : Keep (∀ x : World, Below S w x → Glob x) := ⟨fun x hb => (HD.out x hb).toGlob⟩
  clear hG
  clear h hV hs hg
  rw [hS]
  go_enter Tryd.func3, Tryd.ntmps3
  go_wp2_with (first
    | (refine store_abs2 (by rfl) 26 (.tmp 6) (.tmp 17) (by rfl) (by rfl) (w4.heap.size) (vals .u64 V) (by rfl) (by rfl) 26 (vals .u64 Fp2.Z12) (Has.new' _ rfl _ _) (by rw [vals_size, LV.out]; kernel_rfl) (by first | (rw [vals_size, vals_size, LV.out]; rfl) | rfl) vals_one ?_
       intro w5 qy5 hkeep hbg
       have hbe := ((Below.refl w4.heap.size w4).alloc (Nat.le_refl _) (.cells (vals .u64 Fp2.Z12) 26)).trans hbg
       have Nay := qa4.lt
       have qa5 := qa4.keep hbe
       have Nxy := qx4.lt
       have qx5 := qx4.keep hbe
       have My : S ≤ w4.heap.size := HSS.out _ hb4
       have hb5 := hb4.trans (hbe.mono (HSS.out _ hb4))
       clear hkeep hbg hbe hb4 qa4 qx4)
    | (have hq0 := hb3
       clear hq0
       go_at_call 10
       refine (P2.out _).mono ?_
       rintro e w4 ⟨rfl, hq⟩
       have qa4 := qa3.keep hq
       have qx4 := qx3.keep hq
       have hb4 := hb3.trans (hq.mono (HSS.out _ hb3))
       clear hq hb3 qa3 qx3)
    | (refine wpList_load_row rfl 26 (.tmp 1) rfl (S) rfl _ _ _ _ qa3.eq Tryd.underlying26 rfl (by rw [vals_size, ha.len]; kernel_rfl) ?_)
    | (refine store_abs2 (by rfl) 26 (.tmp 4) (.tmp 12) (by rfl) (by rfl) (w2.heap.size) (vals .u64 V) (by rfl) (by rfl) 26 (vals .u64 Fp2.Z12) (Has.new' _ rfl _ _) (by rw [vals_size, LV.out]; kernel_rfl) (by first | (rw [vals_size, vals_size, LV.out]; rfl) | rfl) vals_one ?_
       intro w3 qx3 hkeep hbg
       have hbe := ((Below.refl w2.heap.size w2).alloc (Nat.le_refl _) (.cells (vals .u64 Fp2.Z12) 26)).trans hbg
       have Nax := qa2.lt
       have qa3 := qa2.keep hbe
       have Mx : S ≤ w2.heap.size := HSS.out _ hb2
       have hb3 := hb2.trans (hbe.mono (HSS.out _ hb2))
       clear hkeep hbg hbe hb2 qa2)
    | (have hq0 := hb1
       clear hq0
       go_at_call 9
       refine (P1.out _ (HD.out _ hb1)).mono ?_
       rintro e w2 ⟨rfl, hq⟩
       have qa2 := qa1.keep hq
       have hb2 := hb1.trans (hq.mono (HSS.out _ hb1))
       clear hq hb1 qa1)
    | (refine wpList_load_row rfl 26 (.tmp 1) rfl (S) rfl _ _ _ _ qa1.eq Tryd.underlying26 rfl (by rw [vals_size, ha.len]; kernel_rfl) ?_)
    | (have hq0 := hb0
       clear hq0
       go_at_call 8
       refine (awake_c _ (HD.out _ hb0)).mono ?_
       rintro e w1 ⟨rfl, hq⟩
       have qa1 := qa0.keep hq
       have hb1 := hb0.trans (hq.mono (HSS.out _ hb0))
       clear hq hb0 qa0))
  refine wp_reads 32 0 w5.heap.size (by kernel_rfl) (by kernel_rfl) (by rfl) (by kernel_rfl) (fun _ _ d _ _ h => by cases d <;> exact h) ?_
  simp only [List.take_succ_cons, List.take_zero]
  repeat ((first
    | refine take_eql_t (by rfl) (by rfl) (by rfl) (by rfl) eqok2 gd2 (Nm.len (n := 12) (by with_reducible first | exact Nm.fe _ | exact Nm.F2 _ | assumption | exact nm_one | exact nm_Z6 | (refine Nm.seg (m := 12) ?_ (by decide); assumption) | exact Nm.seg (m := 12) (Nm.F2 _) (by decide) | exact Nm.app2 (.fe _) (.fe _) | exact nm_rep | exact nm_Z12 | exact nm_two | (refine Nm.app2 ?_ nm_Z6; assumption) | exact Nm.app2 (.fe _) nm_Z6 | exact Nm.app2 nm_rep nm_one | exact ⟨rfl, words_of _ (by decide)⟩ | fail)) (Nm.len (n := 12) (by with_reducible first | exact Nm.fe _ | exact Nm.F2 _ | assumption | exact nm_one | exact nm_Z6 | (refine Nm.seg (m := 12) ?_ (by decide); assumption) | exact Nm.seg (m := 12) (Nm.F2 _) (by decide) | exact Nm.app2 (.fe _) (.fe _) | exact nm_rep | exact nm_Z12 | exact nm_two | (refine Nm.app2 ?_ nm_Z6; assumption) | exact Nm.app2 (.fe _) nm_Z6 | exact Nm.app2 nm_rep nm_one | exact ⟨rfl, words_of _ (by decide)⟩ | fail)) (by with_reducible first | rfl) ?_
    | refine take_neq_t (by rfl) (by rfl) (by rfl) (by rfl) eqok2 gd2 (Nm.len (n := 12) (by with_reducible first | exact Nm.fe _ | exact Nm.F2 _ | assumption | exact nm_one | exact nm_Z6 | (refine Nm.seg (m := 12) ?_ (by decide); assumption) | exact Nm.seg (m := 12) (Nm.F2 _) (by decide) | exact Nm.app2 (.fe _) (.fe _) | exact nm_rep | exact nm_Z12 | exact nm_two | (refine Nm.app2 ?_ nm_Z6; assumption) | exact Nm.app2 (.fe _) nm_Z6 | exact Nm.app2 nm_rep nm_one | exact ⟨rfl, words_of _ (by decide)⟩ | fail)) (Nm.len (n := 12) (by with_reducible first | exact Nm.fe _ | exact Nm.F2 _ | assumption | exact nm_one | exact nm_Z6 | (refine Nm.seg (m := 12) ?_ (by decide); assumption) | exact Nm.seg (m := 12) (Nm.F2 _) (by decide) | exact Nm.app2 (.fe _) (.fe _) | exact nm_rep | exact nm_Z12 | exact nm_two | (refine Nm.app2 ?_ nm_Z6; assumption) | exact Nm.app2 (.fe _) nm_Z6 | exact Nm.app2 nm_rep nm_one | exact ⟨rfl, words_of _ (by decide)⟩ | fail)) (by with_reducible first | rfl) ?_
    | refine take_eql_f (by rfl) (by rfl) (by rfl) (by rfl) eqok2 gd2 (Nm.len (n := 12) (by with_reducible first | exact Nm.fe _ | exact Nm.F2 _ | assumption | exact nm_one | exact nm_Z6 | (refine Nm.seg (m := 12) ?_ (by decide); assumption) | exact Nm.seg (m := 12) (Nm.F2 _) (by decide) | exact Nm.app2 (.fe _) (.fe _) | exact nm_rep | exact nm_Z12 | exact nm_two | (refine Nm.app2 ?_ nm_Z6; assumption) | exact Nm.app2 (.fe _) nm_Z6 | exact Nm.app2 nm_rep nm_one | exact ⟨rfl, words_of _ (by decide)⟩ | fail)) (Nm.len (n := 12) (by with_reducible first | exact Nm.fe _ | exact Nm.F2 _ | assumption | exact nm_one | exact nm_Z6 | (refine Nm.seg (m := 12) ?_ (by decide); assumption) | exact Nm.seg (m := 12) (Nm.F2 _) (by decide) | exact Nm.app2 (.fe _) (.fe _) | exact nm_rep | exact nm_Z12 | exact nm_two | (refine Nm.app2 ?_ nm_Z6; assumption) | exact Nm.app2 (.fe _) nm_Z6 | exact Nm.app2 nm_rep nm_one | exact ⟨rfl, words_of _ (by decide)⟩ | fail)) (by with_reducible first | assumption) ?_
    | refine take_neq_f (by rfl) (by rfl) (by rfl) (by rfl) eqok2 gd2 (Nm.len (n := 12) (by with_reducible first | exact Nm.fe _ | exact Nm.F2 _ | assumption | exact nm_one | exact nm_Z6 | (refine Nm.seg (m := 12) ?_ (by decide); assumption) | exact Nm.seg (m := 12) (Nm.F2 _) (by decide) | exact Nm.app2 (.fe _) (.fe _) | exact nm_rep | exact nm_Z12 | exact nm_two | (refine Nm.app2 ?_ nm_Z6; assumption) | exact Nm.app2 (.fe _) nm_Z6 | exact Nm.app2 nm_rep nm_one | exact ⟨rfl, words_of _ (by decide)⟩ | fail)) (Nm.len (n := 12) (by with_reducible first | exact Nm.fe _ | exact Nm.F2 _ | assumption | exact nm_one | exact nm_Z6 | (refine Nm.seg (m := 12) ?_ (by decide); assumption) | exact Nm.seg (m := 12) (Nm.F2 _) (by decide) | exact Nm.app2 (.fe _) (.fe _) | exact nm_rep | exact nm_Z12 | exact nm_two | (refine Nm.app2 ?_ nm_Z6; assumption) | exact Nm.app2 (.fe _) nm_Z6 | exact Nm.app2 nm_rep nm_one | exact ⟨rfl, words_of _ (by decide)⟩ | fail)) (by with_reducible first | assumption) ?_
    | (refine wpTake_cons (Steady.of_yields (Or.inl ⟨by rfl, fun w => (by go_simp; exact ⟨rfl, rfl⟩)⟩)) ?_)
    | refine take_load (by rfl) 24 (by rfl) (g := S) (n := 6) (by rfl) (t := 26) (xs := a) (fun w hw => hw.has qa5 (Nat.ne_of_lt qa5.lt)) Tryd.underlying24 rfl (by kernel_rfl) (by rw [ha.len]; decide) ?_
    | refine take_loadw (by rfl) 26 (by rfl) (g := S) (n := 12) (by rfl) (t := 26) (xs := a) (fun w hw => hw.has qa5 (Nat.ne_of_lt qa5.lt)) Tryd.underlying26 rfl (by kernel_rfl) ha.len ?_
    | refine take_load (by rfl) 24 (by rfl) (g := w2.heap.size) (n := 6) (by rfl) (t := 26) (xs := V) (fun w hw => hw.has qx5 (Nat.ne_of_lt qx5.lt)) Tryd.underlying24 rfl (by kernel_rfl) (by rw [LV.out]; decide) ?_
    | refine take_loadw (by rfl) 26 (by rfl) (g := w2.heap.size) (n := 12) (by rfl) (t := 26) (xs := V) (fun w hw => hw.has qx5 (Nat.ne_of_lt qx5.lt)) Tryd.underlying26 rfl (by kernel_rfl) LV.out ?_
    | refine take_load (by rfl) 24 (by rfl) (g := w4.heap.size) (n := 6) (by rfl) (t := 26) (xs := V) (fun w hw => hw.has qy5 (Nat.ne_of_lt qy5.lt)) Tryd.underlying24 rfl (by kernel_rfl) (by rw [LV.out]; decide) ?_
    | refine take_loadw (by rfl) 26 (by rfl) (g := w4.heap.size) (n := 12) (by rfl) (t := 26) (xs := V) (fun w hw => hw.has qy5 (Nat.ne_of_lt qy5.lt)) Tryd.underlying26 rfl (by kernel_rfl) LV.out ?_
    | refine wpTake_cons (.inl ⟨by rfl, fun w hw => (by unfold Oper.quietAt; go_simp; (first | with_reducible refine P3.out _ (HD.out _ (hb5.trans (hw.below (HSS.out _ hb5) (HSS.out _ hb5)))) | with_reducible refine P4.out _ (HD.out _ (hb5.trans (hw.below (HSS.out _ hb5) (HSS.out _ hb5)))) | with_reducible refine P5.out _ | with_reducible refine P6.out _ (HD.out _ (hb5.trans (hw.below (HSS.out _ hb5) (HSS.out _ hb5)))) | with_reducible refine P7.out _) <;> (with_reducible first | exact Nm.fe _ | exact Nm.F2 _ | assumption | exact nm_one | exact nm_Z6 | (refine Nm.seg (m := 12) ?_ (by decide); assumption) | exact Nm.seg (m := 12) (Nm.F2 _) (by decide) | exact Nm.app2 (.fe _) (.fe _) | exact nm_rep | exact nm_Z12 | exact nm_two | (refine Nm.app2 ?_ nm_Z6; assumption) | exact Nm.app2 (.fe _) nm_Z6 | exact Nm.app2 nm_rep nm_one | exact ⟨rfl, words_of _ (by decide)⟩ | fail))⟩) ?_
    | refine take_skip (by rfl) ?_
    | refine wpTake_cons (Steady.of_yields (Or.inl ⟨by rfl, fun w => (by first | (go_simp; done) | (go_simp; with_reducible rfl))⟩)) ?_); simp only [List.getElem_toArray, List.getElem_cons_zero, List.getElem_cons_succ, Act.put, List.setIfInBounds_toArray, List.set_cons_zero, List.set_cons_succ])
  refine wpTake_nil ?_
  refine wpAnyU_end (by kernel_rfl) (fun w6 hq0 => ?_)
  have hq := (drawn_below w5).trans hq0
  have qa6 := qa5.keep hq
  have qx6 := qx5.keep hq
  have qy6 := qy5.keep hq
  have hb6 := hb5.trans (hq.mono (HSS.out _ hb5))
  clear hq0 hq hb5 qa5 qx5 qy5
  go_wp2
  go_ret
  exact ⟨rfl, hb6⟩

set_option maxRecDepth 100000 in
set_option maxHeartbeats 4000000 in
theorem tells_w (a : List Int) (ha : Nm 12 a) (w : World) (hG : GlobD w) : Calls Tryd.prog 3 #[.agg (vals .u64 a)] w fun e w' => e = .returned (.bool true) ∧ Below w.heap.size w w' := by
  cases h : gsq (v2 a)
  · exact tells_no a ha w hG h
  · exact tells_yes a ha w hG h

set_option maxRecDepth 100000 in
set_option maxHeartbeats 4000000 in
theorem back_even (a : List Int) (ha : Nm 12 a) (w : World) (hG : GlobD w) (h : ev2 (v2 a) = F2 (v2 a)) : Calls Tryd.prog 4 #[.agg (vals .u64 a)] w fun e w' => e = .returned (.bool true) ∧ Below w.heap.size w w' := by
  obtain ⟨p, hp⟩ : ∃ p, v2 a = p := ⟨_, rfl⟩
  rw [hp] at h
  obtain ⟨Q, hQ⟩ : ∃ o, F2 (gm p p) = o := ⟨_, rfl⟩
  have nQ : Nm 12 Q := hQ ▸ .F2 _
  have LQ : Keep (Q.length = 12) := ⟨nQ.len⟩
  obtain ⟨V, hV⟩ : ∃ o, ev2 p = o := ⟨_, rfl⟩
  have nV : Nm 12 V := hV ▸ ev2_nm _
  have LV : Keep (V.length = 12) := ⟨nV.len⟩
  obtain ⟨Y, hY⟩ : ∃ o, F2 p = o := ⟨_, rfl⟩
  have nY : Nm 12 Y := hY ▸ .F2 _
  have LY : Keep (Y.length = 12) := ⟨nY.len⟩
  obtain ⟨N, hN⟩ : ∃ o, F2 (gn p) = o := ⟨_, rfl⟩
  have nN : Nm 12 N := hN ▸ .F2 _
  have LN : Keep (N.length = 12) := ⟨nN.len⟩
  have hq : Fp2.E2 (gm p p) (v2 Q) := by rw [← hQ]; exact (v2_F2 _).symm
  have P1 : Keep (∀ x : World, Glob x → Calls Tryd.prog 16 #[.agg (vals .u64 a), .agg (vals .u64 a)] x fun e x' => e = .returned (.agg (vals .u64 Q)) ∧ Below x.heap.size x x') := ⟨fun x hG => by
    have h9 := lMul2 a ha a ha x hG
    rwa [hp, hQ] at h9⟩
  have P2 : Keep (∀ x : World, GlobD x → Calls Tryd.prog 9 #[.agg (vals .u64 Q)] x fun e x' => e = .returned (.tuple #[.agg (vals .u64 V), .bool true]) ∧ Below x.heap.size x x') := ⟨fun x hG => by
    have h9 := lSq_yes Q nQ (gsq_of hq) x hG
    rwa [root2_of hq, hV] at h9⟩
  have P3 : Keep (∀ x : World, Glob x → Calls Tryd.prog 17 #[.agg (vals .u64 a)] x fun e x' => e = .returned (.agg (vals .u64 Y)) ∧ Below x.heap.size x x') := ⟨fun x hG => by
    have h9 := lRed2 a ha x hG
    rwa [hp, hY] at h9⟩
  have P4 : Keep (∀ x : World, GlobD x → Calls Tryd.prog 11 #[.agg (vals .u64 Q)] x fun e x' => e = .returned (.bool true) ∧ Below x.heap.size x x') := ⟨fun x hG => by
    have h9 := lIs Q nQ x hG
    rwa [gsq_of hq] at h9⟩
  have P5 : Keep (∀ x : World, Glob x → Calls Tryd.prog 18 #[.agg (vals .u64 a)] x fun e x' => e = .returned (.agg (vals .u64 N)) ∧ Below x.heap.size x x') := ⟨fun x hG => by
    have h9 := lNeg2 a ha x hG
    rwa [hp, hN] at h9⟩
  have P6 : Keep (∀ x : World, GlobD x → Calls Tryd.prog 12 #[.agg (vals .u64 V)] x fun e x' => e = .returned (.int .i64 0) ∧ Below x.heap.size x x') := ⟨fun x hG => by
    have h9 := lSg V nV x hG
    rwa [← hV, ev2_sg, hV] at h9⟩
  have P7 : Keep (∀ x : World, Glob x → Calls Tryd.prog 16 #[.agg (vals .u64 V), .agg (vals .u64 V)] x fun e x' => e = .returned (.agg (vals .u64 Q)) ∧ Below x.heap.size x x') := ⟨fun x hG => by
    have h9 := lMul2 V nV V nV x hG
    rwa [← hV, ev2_two, hQ, hV] at h9⟩
  have hE : Keep (V = Y) := ⟨by rw [← hV, ← hY]; exact h⟩
  obtain ⟨S, hS⟩ : ∃ S, w.heap.size = S := ⟨_, rfl⟩
  have qa0 : Has (w.alloc (.cells (vals .u64 a) 26)) (S) 26 (vals .u64 a) := (Has.new' _ hS.symm _ _)
  have hb0 : Below S w (w.alloc (.cells (vals .u64 a) 26)) := by rw [← hS]; exact ((Below.refl _ _).alloc (Nat.le_refl _) _)
  have hsz0 : (w.alloc (.cells (vals .u64 a) 26)).heap.size = S + 1 := by simp only [World.size_alloc, hS]
  have HSS : Keep (∀ x : World, Below S w x → S ≤ x.heap.size) := ⟨fun x hb => Nat.le_trans (by omega) hb.size⟩
  have HD : Keep (∀ x : World, Below S w x → GlobD x) := ⟨fun x hb => hG.keep (by rw [hS]; exact hb)⟩
  have HG : Keep (∀ x : World, Below S w x → Glob x) := ⟨fun x hb => (HD.out x hb).toGlob⟩
  clear hG
  clear h hp hQ hV hY hN hq
  rw [hS]
  go_enter Tryd.func4, Tryd.ntmps4
  go_wp2_with (first
    | (refine store_abs2 (by rfl) 26 (.tmp 7) (.tmp 18) (by rfl) (by rfl) (w6.heap.size) (vals .u64 Y) (by rfl) (by rfl) 26 (vals .u64 Fp2.Z12) (Has.new' _ rfl _ _) (by rw [vals_size, LY.out]; kernel_rfl) (by first | (rw [vals_size, vals_size, LY.out]; rfl) | rfl) vals_one ?_
       intro w7 qy7 hkeep hbg
       have hbe := ((Below.refl w6.heap.size w6).alloc (Nat.le_refl _) (.cells (vals .u64 Fp2.Z12) 26)).trans hbg
       have Nay := qa6.lt
       have qa7 := qa6.keep hbe
       have Nsy := qs6.lt
       have qs7 := qs6.keep hbe
       have Nxy := qx6.lt
       have qx7 := qx6.keep hbe
       have My : S ≤ w6.heap.size := HSS.out _ hb6
       have hb7 := hb6.trans (hbe.mono (HSS.out _ hb6))
       clear hkeep hbg hbe hb6 qa6 qs6 qx6)
    | (have hq0 := hb5
       clear hq0
       go_at_call 17
       refine (P3.out _ (HG.out _ hb5)).mono ?_
       rintro e w6 ⟨rfl, hq⟩
       have qa6 := qa5.keep hq
       have qs6 := qs5.keep hq
       have qx6 := qx5.keep hq
       have hb6 := hb5.trans (hq.mono (HSS.out _ hb5))
       clear hq hb5 qa5 qs5 qx5)
    | (refine wpList_load_row rfl 26 (.tmp 1) rfl (S) rfl _ _ _ _ qa5.eq Tryd.underlying26 rfl (by rw [vals_size, ha.len]; kernel_rfl) ?_)
    | (refine store_abs2 (by rfl) 26 (.tmp 5) (.tmp 15) (by rfl) (by rfl) (w4.heap.size) (vals .u64 V) (by rfl) (by rfl) 26 (vals .u64 Fp2.Z12) (Has.new' _ rfl _ _) (by rw [vals_size, LV.out]; kernel_rfl) (by first | (rw [vals_size, vals_size, LV.out]; rfl) | rfl) vals_one ?_
       intro w5 qx5 hkeep hbg
       have hbe := ((Below.refl w4.heap.size w4).alloc (Nat.le_refl _) (.cells (vals .u64 Fp2.Z12) 26)).trans hbg
       have Nax := qa4.lt
       have qa5 := qa4.keep hbe
       have Nsx := qs4.lt
       have qs5 := qs4.keep hbe
       have Mx : S ≤ w4.heap.size := HSS.out _ hb4
       have hb5 := hb4.trans (hbe.mono (HSS.out _ hb4))
       clear hkeep hbg hbe hb4 qa4 qs4)
    | (have hq0 := hb3
       clear hq0
       go_at_call 9
       refine (P2.out _ (HD.out _ hb3)).mono ?_
       rintro e w4 ⟨rfl, hq⟩
       have qa4 := qa3.keep hq
       have qs4 := qs3.keep hq
       have hb4 := hb3.trans (hq.mono (HSS.out _ hb3))
       clear hq hb3 qa3 qs3)
    | (refine wpList_load_row rfl 26 (.tmp 4) rfl (w2.heap.size) rfl _ _ _ _ qs3.eq Tryd.underlying26 rfl (by rw [vals_size, LQ.out]; kernel_rfl) ?_)
    | (refine store_abs2 (by rfl) 26 (.tmp 4) (.tmp 11) (by rfl) (by rfl) (w2.heap.size) (vals .u64 Q) (by rfl) (by rfl) 26 (vals .u64 Fp2.Z12) (Has.new' _ rfl _ _) (by rw [vals_size, LQ.out]; kernel_rfl) (by first | (rw [vals_size, vals_size, LQ.out]; rfl) | rfl) vals_one ?_
       intro w3 qs3 hkeep hbg
       have hbe := ((Below.refl w2.heap.size w2).alloc (Nat.le_refl _) (.cells (vals .u64 Fp2.Z12) 26)).trans hbg
       have Nas := qa2.lt
       have qa3 := qa2.keep hbe
       have Ms : S ≤ w2.heap.size := HSS.out _ hb2
       have hb3 := hb2.trans (hbe.mono (HSS.out _ hb2))
       clear hkeep hbg hbe hb2 qa2)
    | (have hq0 := hb1
       clear hq0
       go_at_call 16
       refine (P1.out _ (HG.out _ hb1)).mono ?_
       rintro e w2 ⟨rfl, hq⟩
       have qa2 := qa1.keep hq
       have hb2 := hb1.trans (hq.mono (HSS.out _ hb1))
       clear hq hb1 qa1)
    | (refine wpList_load_row rfl 26 (.tmp 1) rfl (S) rfl _ _ _ _ qa1.eq Tryd.underlying26 rfl (by rw [vals_size, ha.len]; kernel_rfl) ?_)
    | (have hq0 := hb0
       clear hq0
       go_at_call 8
       refine (awake_c _ (HD.out _ hb0)).mono ?_
       rintro e w1 ⟨rfl, hq⟩
       have qa1 := qa0.keep hq
       have hb1 := hb0.trans (hq.mono (HSS.out _ hb0))
       clear hq hb0 qa0))
  refine wp_reads 32 0 w7.heap.size (by kernel_rfl) (by kernel_rfl) (by rfl) (by kernel_rfl) (fun _ _ d _ _ h => by cases d <;> exact h) ?_
  simp only [List.take_succ_cons, List.take_zero]
  repeat ((first
    | refine take_eql_t (by rfl) (by rfl) (by rfl) (by rfl) eqok2 gd2 (Nm.len (n := 12) (by with_reducible first | exact Nm.fe _ | exact Nm.F2 _ | assumption | exact nm_one | exact nm_Z6 | (refine Nm.seg (m := 12) ?_ (by decide); assumption) | exact Nm.seg (m := 12) (Nm.F2 _) (by decide) | exact Nm.app2 (.fe _) (.fe _) | exact nm_rep | exact nm_Z12 | exact nm_two | (refine Nm.app2 ?_ nm_Z6; assumption) | exact Nm.app2 (.fe _) nm_Z6 | exact Nm.app2 nm_rep nm_one | exact ⟨rfl, words_of _ (by decide)⟩ | fail)) (Nm.len (n := 12) (by with_reducible first | exact Nm.fe _ | exact Nm.F2 _ | assumption | exact nm_one | exact nm_Z6 | (refine Nm.seg (m := 12) ?_ (by decide); assumption) | exact Nm.seg (m := 12) (Nm.F2 _) (by decide) | exact Nm.app2 (.fe _) (.fe _) | exact nm_rep | exact nm_Z12 | exact nm_two | (refine Nm.app2 ?_ nm_Z6; assumption) | exact Nm.app2 (.fe _) nm_Z6 | exact Nm.app2 nm_rep nm_one | exact ⟨rfl, words_of _ (by decide)⟩ | fail)) (by with_reducible first | rfl | exact hE.out) ?_
    | refine take_neq_t (by rfl) (by rfl) (by rfl) (by rfl) eqok2 gd2 (Nm.len (n := 12) (by with_reducible first | exact Nm.fe _ | exact Nm.F2 _ | assumption | exact nm_one | exact nm_Z6 | (refine Nm.seg (m := 12) ?_ (by decide); assumption) | exact Nm.seg (m := 12) (Nm.F2 _) (by decide) | exact Nm.app2 (.fe _) (.fe _) | exact nm_rep | exact nm_Z12 | exact nm_two | (refine Nm.app2 ?_ nm_Z6; assumption) | exact Nm.app2 (.fe _) nm_Z6 | exact Nm.app2 nm_rep nm_one | exact ⟨rfl, words_of _ (by decide)⟩ | fail)) (Nm.len (n := 12) (by with_reducible first | exact Nm.fe _ | exact Nm.F2 _ | assumption | exact nm_one | exact nm_Z6 | (refine Nm.seg (m := 12) ?_ (by decide); assumption) | exact Nm.seg (m := 12) (Nm.F2 _) (by decide) | exact Nm.app2 (.fe _) (.fe _) | exact nm_rep | exact nm_Z12 | exact nm_two | (refine Nm.app2 ?_ nm_Z6; assumption) | exact Nm.app2 (.fe _) nm_Z6 | exact Nm.app2 nm_rep nm_one | exact ⟨rfl, words_of _ (by decide)⟩ | fail)) (by with_reducible first | rfl | exact hE.out) ?_
    | refine take_eql_f (by rfl) (by rfl) (by rfl) (by rfl) eqok2 gd2 (Nm.len (n := 12) (by with_reducible first | exact Nm.fe _ | exact Nm.F2 _ | assumption | exact nm_one | exact nm_Z6 | (refine Nm.seg (m := 12) ?_ (by decide); assumption) | exact Nm.seg (m := 12) (Nm.F2 _) (by decide) | exact Nm.app2 (.fe _) (.fe _) | exact nm_rep | exact nm_Z12 | exact nm_two | (refine Nm.app2 ?_ nm_Z6; assumption) | exact Nm.app2 (.fe _) nm_Z6 | exact Nm.app2 nm_rep nm_one | exact ⟨rfl, words_of _ (by decide)⟩ | fail)) (Nm.len (n := 12) (by with_reducible first | exact Nm.fe _ | exact Nm.F2 _ | assumption | exact nm_one | exact nm_Z6 | (refine Nm.seg (m := 12) ?_ (by decide); assumption) | exact Nm.seg (m := 12) (Nm.F2 _) (by decide) | exact Nm.app2 (.fe _) (.fe _) | exact nm_rep | exact nm_Z12 | exact nm_two | (refine Nm.app2 ?_ nm_Z6; assumption) | exact Nm.app2 (.fe _) nm_Z6 | exact Nm.app2 nm_rep nm_one | exact ⟨rfl, words_of _ (by decide)⟩ | fail)) (by with_reducible first | assumption) ?_
    | refine take_neq_f (by rfl) (by rfl) (by rfl) (by rfl) eqok2 gd2 (Nm.len (n := 12) (by with_reducible first | exact Nm.fe _ | exact Nm.F2 _ | assumption | exact nm_one | exact nm_Z6 | (refine Nm.seg (m := 12) ?_ (by decide); assumption) | exact Nm.seg (m := 12) (Nm.F2 _) (by decide) | exact Nm.app2 (.fe _) (.fe _) | exact nm_rep | exact nm_Z12 | exact nm_two | (refine Nm.app2 ?_ nm_Z6; assumption) | exact Nm.app2 (.fe _) nm_Z6 | exact Nm.app2 nm_rep nm_one | exact ⟨rfl, words_of _ (by decide)⟩ | fail)) (Nm.len (n := 12) (by with_reducible first | exact Nm.fe _ | exact Nm.F2 _ | assumption | exact nm_one | exact nm_Z6 | (refine Nm.seg (m := 12) ?_ (by decide); assumption) | exact Nm.seg (m := 12) (Nm.F2 _) (by decide) | exact Nm.app2 (.fe _) (.fe _) | exact nm_rep | exact nm_Z12 | exact nm_two | (refine Nm.app2 ?_ nm_Z6; assumption) | exact Nm.app2 (.fe _) nm_Z6 | exact Nm.app2 nm_rep nm_one | exact ⟨rfl, words_of _ (by decide)⟩ | fail)) (by with_reducible first | assumption) ?_
    | refine take_load (by rfl) 24 (by rfl) (g := S) (n := 6) (by rfl) (t := 26) (xs := a) (fun w hw => hw.has qa7 (Nat.ne_of_lt qa7.lt)) Tryd.underlying24 rfl (by kernel_rfl) (by rw [ha.len]; decide) ?_
    | refine take_loadw (by rfl) 26 (by rfl) (g := S) (n := 12) (by rfl) (t := 26) (xs := a) (fun w hw => hw.has qa7 (Nat.ne_of_lt qa7.lt)) Tryd.underlying26 rfl (by kernel_rfl) ha.len ?_
    | refine take_load (by rfl) 24 (by rfl) (g := w2.heap.size) (n := 6) (by rfl) (t := 26) (xs := Q) (fun w hw => hw.has qs7 (Nat.ne_of_lt qs7.lt)) Tryd.underlying24 rfl (by kernel_rfl) (by rw [LQ.out]; decide) ?_
    | refine take_loadw (by rfl) 26 (by rfl) (g := w2.heap.size) (n := 12) (by rfl) (t := 26) (xs := Q) (fun w hw => hw.has qs7 (Nat.ne_of_lt qs7.lt)) Tryd.underlying26 rfl (by kernel_rfl) LQ.out ?_
    | refine take_load (by rfl) 24 (by rfl) (g := w4.heap.size) (n := 6) (by rfl) (t := 26) (xs := V) (fun w hw => hw.has qx7 (Nat.ne_of_lt qx7.lt)) Tryd.underlying24 rfl (by kernel_rfl) (by rw [LV.out]; decide) ?_
    | refine take_loadw (by rfl) 26 (by rfl) (g := w4.heap.size) (n := 12) (by rfl) (t := 26) (xs := V) (fun w hw => hw.has qx7 (Nat.ne_of_lt qx7.lt)) Tryd.underlying26 rfl (by kernel_rfl) LV.out ?_
    | refine take_load (by rfl) 24 (by rfl) (g := w6.heap.size) (n := 6) (by rfl) (t := 26) (xs := Y) (fun w hw => hw.has qy7 (Nat.ne_of_lt qy7.lt)) Tryd.underlying24 rfl (by kernel_rfl) (by rw [LY.out]; decide) ?_
    | refine take_loadw (by rfl) 26 (by rfl) (g := w6.heap.size) (n := 12) (by rfl) (t := 26) (xs := Y) (fun w hw => hw.has qy7 (Nat.ne_of_lt qy7.lt)) Tryd.underlying26 rfl (by kernel_rfl) LY.out ?_
    | refine wpTake_cons (.inl ⟨by rfl, fun w hw => (by unfold Oper.quietAt; go_simp; (first | with_reducible refine P4.out _ (HD.out _ (hb7.trans (hw.below (HSS.out _ hb7) (HSS.out _ hb7)))) | with_reducible refine P5.out _ (HG.out _ (hb7.trans (hw.below (HSS.out _ hb7) (HSS.out _ hb7)))) | with_reducible refine P6.out _ (HD.out _ (hb7.trans (hw.below (HSS.out _ hb7) (HSS.out _ hb7)))) | with_reducible refine P7.out _ (HG.out _ (hb7.trans (hw.below (HSS.out _ hb7) (HSS.out _ hb7))))) <;> (with_reducible first | exact Nm.fe _ | exact Nm.F2 _ | assumption | exact nm_one | exact nm_Z6 | (refine Nm.seg (m := 12) ?_ (by decide); assumption) | exact Nm.seg (m := 12) (Nm.F2 _) (by decide) | exact Nm.app2 (.fe _) (.fe _) | exact nm_rep | exact nm_Z12 | exact nm_two | (refine Nm.app2 ?_ nm_Z6; assumption) | exact Nm.app2 (.fe _) nm_Z6 | exact Nm.app2 nm_rep nm_one | exact ⟨rfl, words_of _ (by decide)⟩ | fail))⟩) ?_
    | refine take_skip (by rfl) ?_
    | refine wpTake_cons (Steady.of_yields (Or.inl ⟨by rfl, fun w => (by first | (go_simp; done) | (go_simp; with_reducible rfl))⟩)) ?_); simp only [List.getElem_toArray, List.getElem_cons_zero, List.getElem_cons_succ, Act.put, List.setIfInBounds_toArray, List.set_cons_zero, List.set_cons_succ])
  refine wpTake_nil ?_
  refine wpAnyU_end (by kernel_rfl) (fun w8 hq0 => ?_)
  have hq := (drawn_below w7).trans hq0
  have qa8 := qa7.keep hq
  have qs8 := qs7.keep hq
  have qx8 := qx7.keep hq
  have qy8 := qy7.keep hq
  have hb8 := hb7.trans (hq.mono (HSS.out _ hb7))
  clear hq0 hq hb7 qa7 qs7 qx7 qy7
  go_wp2
  go_ret
  exact ⟨rfl, hb8⟩

set_option maxRecDepth 100000 in
set_option maxHeartbeats 4000000 in
theorem back_odd (a : List Int) (ha : Nm 12 a) (w : World) (hG : GlobD w) (h : ev2 (v2 a) = F2 (gn (v2 a))) (h2 : ev2 (v2 a) ≠ F2 (v2 a)) : Calls Tryd.prog 4 #[.agg (vals .u64 a)] w fun e w' => e = .returned (.bool true) ∧ Below w.heap.size w w' := by
  obtain ⟨p, hp⟩ : ∃ p, v2 a = p := ⟨_, rfl⟩
  rw [hp] at h h2
  obtain ⟨Q, hQ⟩ : ∃ o, F2 (gm p p) = o := ⟨_, rfl⟩
  have nQ : Nm 12 Q := hQ ▸ .F2 _
  have LQ : Keep (Q.length = 12) := ⟨nQ.len⟩
  obtain ⟨V, hV⟩ : ∃ o, ev2 p = o := ⟨_, rfl⟩
  have nV : Nm 12 V := hV ▸ ev2_nm _
  have LV : Keep (V.length = 12) := ⟨nV.len⟩
  obtain ⟨Y, hY⟩ : ∃ o, F2 p = o := ⟨_, rfl⟩
  have nY : Nm 12 Y := hY ▸ .F2 _
  have LY : Keep (Y.length = 12) := ⟨nY.len⟩
  obtain ⟨N, hN⟩ : ∃ o, F2 (gn p) = o := ⟨_, rfl⟩
  have nN : Nm 12 N := hN ▸ .F2 _
  have LN : Keep (N.length = 12) := ⟨nN.len⟩
  have hq : Fp2.E2 (gm p p) (v2 Q) := by rw [← hQ]; exact (v2_F2 _).symm
  have P1 : Keep (∀ x : World, Glob x → Calls Tryd.prog 16 #[.agg (vals .u64 a), .agg (vals .u64 a)] x fun e x' => e = .returned (.agg (vals .u64 Q)) ∧ Below x.heap.size x x') := ⟨fun x hG => by
    have h9 := lMul2 a ha a ha x hG
    rwa [hp, hQ] at h9⟩
  have P2 : Keep (∀ x : World, GlobD x → Calls Tryd.prog 9 #[.agg (vals .u64 Q)] x fun e x' => e = .returned (.tuple #[.agg (vals .u64 V), .bool true]) ∧ Below x.heap.size x x') := ⟨fun x hG => by
    have h9 := lSq_yes Q nQ (gsq_of hq) x hG
    rwa [root2_of hq, hV] at h9⟩
  have P3 : Keep (∀ x : World, Glob x → Calls Tryd.prog 17 #[.agg (vals .u64 a)] x fun e x' => e = .returned (.agg (vals .u64 Y)) ∧ Below x.heap.size x x') := ⟨fun x hG => by
    have h9 := lRed2 a ha x hG
    rwa [hp, hY] at h9⟩
  have P4 : Keep (∀ x : World, GlobD x → Calls Tryd.prog 11 #[.agg (vals .u64 Q)] x fun e x' => e = .returned (.bool true) ∧ Below x.heap.size x x') := ⟨fun x hG => by
    have h9 := lIs Q nQ x hG
    rwa [gsq_of hq] at h9⟩
  have P5 : Keep (∀ x : World, Glob x → Calls Tryd.prog 18 #[.agg (vals .u64 a)] x fun e x' => e = .returned (.agg (vals .u64 N)) ∧ Below x.heap.size x x') := ⟨fun x hG => by
    have h9 := lNeg2 a ha x hG
    rwa [hp, hN] at h9⟩
  have P6 : Keep (∀ x : World, GlobD x → Calls Tryd.prog 12 #[.agg (vals .u64 V)] x fun e x' => e = .returned (.int .i64 0) ∧ Below x.heap.size x x') := ⟨fun x hG => by
    have h9 := lSg V nV x hG
    rwa [← hV, ev2_sg, hV] at h9⟩
  have P7 : Keep (∀ x : World, Glob x → Calls Tryd.prog 16 #[.agg (vals .u64 V), .agg (vals .u64 V)] x fun e x' => e = .returned (.agg (vals .u64 Q)) ∧ Below x.heap.size x x') := ⟨fun x hG => by
    have h9 := lMul2 V nV V nV x hG
    rwa [← hV, ev2_two, hQ, hV] at h9⟩
  have hE : Keep (V = N) := ⟨by rw [← hV, ← hN]; exact h⟩
  have hNe : Keep (V ≠ Y) := ⟨by rw [← hV, ← hY]; exact h2⟩
  obtain ⟨S, hS⟩ : ∃ S, w.heap.size = S := ⟨_, rfl⟩
  have qa0 : Has (w.alloc (.cells (vals .u64 a) 26)) (S) 26 (vals .u64 a) := (Has.new' _ hS.symm _ _)
  have hb0 : Below S w (w.alloc (.cells (vals .u64 a) 26)) := by rw [← hS]; exact ((Below.refl _ _).alloc (Nat.le_refl _) _)
  have hsz0 : (w.alloc (.cells (vals .u64 a) 26)).heap.size = S + 1 := by simp only [World.size_alloc, hS]
  have HSS : Keep (∀ x : World, Below S w x → S ≤ x.heap.size) := ⟨fun x hb => Nat.le_trans (by omega) hb.size⟩
  have HD : Keep (∀ x : World, Below S w x → GlobD x) := ⟨fun x hb => hG.keep (by rw [hS]; exact hb)⟩
  have HG : Keep (∀ x : World, Below S w x → Glob x) := ⟨fun x hb => (HD.out x hb).toGlob⟩
  clear hG
  clear h hp hQ hV hY hN hq h2
  rw [hS]
  go_enter Tryd.func4, Tryd.ntmps4
  go_wp2_with (first
    | (refine store_abs2 (by rfl) 26 (.tmp 7) (.tmp 18) (by rfl) (by rfl) (w6.heap.size) (vals .u64 Y) (by rfl) (by rfl) 26 (vals .u64 Fp2.Z12) (Has.new' _ rfl _ _) (by rw [vals_size, LY.out]; kernel_rfl) (by first | (rw [vals_size, vals_size, LY.out]; rfl) | rfl) vals_one ?_
       intro w7 qy7 hkeep hbg
       have hbe := ((Below.refl w6.heap.size w6).alloc (Nat.le_refl _) (.cells (vals .u64 Fp2.Z12) 26)).trans hbg
       have Nay := qa6.lt
       have qa7 := qa6.keep hbe
       have Nsy := qs6.lt
       have qs7 := qs6.keep hbe
       have Nxy := qx6.lt
       have qx7 := qx6.keep hbe
       have My : S ≤ w6.heap.size := HSS.out _ hb6
       have hb7 := hb6.trans (hbe.mono (HSS.out _ hb6))
       clear hkeep hbg hbe hb6 qa6 qs6 qx6)
    | (have hq0 := hb5
       clear hq0
       go_at_call 17
       refine (P3.out _ (HG.out _ hb5)).mono ?_
       rintro e w6 ⟨rfl, hq⟩
       have qa6 := qa5.keep hq
       have qs6 := qs5.keep hq
       have qx6 := qx5.keep hq
       have hb6 := hb5.trans (hq.mono (HSS.out _ hb5))
       clear hq hb5 qa5 qs5 qx5)
    | (refine wpList_load_row rfl 26 (.tmp 1) rfl (S) rfl _ _ _ _ qa5.eq Tryd.underlying26 rfl (by rw [vals_size, ha.len]; kernel_rfl) ?_)
    | (refine store_abs2 (by rfl) 26 (.tmp 5) (.tmp 15) (by rfl) (by rfl) (w4.heap.size) (vals .u64 V) (by rfl) (by rfl) 26 (vals .u64 Fp2.Z12) (Has.new' _ rfl _ _) (by rw [vals_size, LV.out]; kernel_rfl) (by first | (rw [vals_size, vals_size, LV.out]; rfl) | rfl) vals_one ?_
       intro w5 qx5 hkeep hbg
       have hbe := ((Below.refl w4.heap.size w4).alloc (Nat.le_refl _) (.cells (vals .u64 Fp2.Z12) 26)).trans hbg
       have Nax := qa4.lt
       have qa5 := qa4.keep hbe
       have Nsx := qs4.lt
       have qs5 := qs4.keep hbe
       have Mx : S ≤ w4.heap.size := HSS.out _ hb4
       have hb5 := hb4.trans (hbe.mono (HSS.out _ hb4))
       clear hkeep hbg hbe hb4 qa4 qs4)
    | (have hq0 := hb3
       clear hq0
       go_at_call 9
       refine (P2.out _ (HD.out _ hb3)).mono ?_
       rintro e w4 ⟨rfl, hq⟩
       have qa4 := qa3.keep hq
       have qs4 := qs3.keep hq
       have hb4 := hb3.trans (hq.mono (HSS.out _ hb3))
       clear hq hb3 qa3 qs3)
    | (refine wpList_load_row rfl 26 (.tmp 4) rfl (w2.heap.size) rfl _ _ _ _ qs3.eq Tryd.underlying26 rfl (by rw [vals_size, LQ.out]; kernel_rfl) ?_)
    | (refine store_abs2 (by rfl) 26 (.tmp 4) (.tmp 11) (by rfl) (by rfl) (w2.heap.size) (vals .u64 Q) (by rfl) (by rfl) 26 (vals .u64 Fp2.Z12) (Has.new' _ rfl _ _) (by rw [vals_size, LQ.out]; kernel_rfl) (by first | (rw [vals_size, vals_size, LQ.out]; rfl) | rfl) vals_one ?_
       intro w3 qs3 hkeep hbg
       have hbe := ((Below.refl w2.heap.size w2).alloc (Nat.le_refl _) (.cells (vals .u64 Fp2.Z12) 26)).trans hbg
       have Nas := qa2.lt
       have qa3 := qa2.keep hbe
       have Ms : S ≤ w2.heap.size := HSS.out _ hb2
       have hb3 := hb2.trans (hbe.mono (HSS.out _ hb2))
       clear hkeep hbg hbe hb2 qa2)
    | (have hq0 := hb1
       clear hq0
       go_at_call 16
       refine (P1.out _ (HG.out _ hb1)).mono ?_
       rintro e w2 ⟨rfl, hq⟩
       have qa2 := qa1.keep hq
       have hb2 := hb1.trans (hq.mono (HSS.out _ hb1))
       clear hq hb1 qa1)
    | (refine wpList_load_row rfl 26 (.tmp 1) rfl (S) rfl _ _ _ _ qa1.eq Tryd.underlying26 rfl (by rw [vals_size, ha.len]; kernel_rfl) ?_)
    | (have hq0 := hb0
       clear hq0
       go_at_call 8
       refine (awake_c _ (HD.out _ hb0)).mono ?_
       rintro e w1 ⟨rfl, hq⟩
       have qa1 := qa0.keep hq
       have hb1 := hb0.trans (hq.mono (HSS.out _ hb0))
       clear hq hb0 qa0))
  refine wp_reads 32 0 w7.heap.size (by kernel_rfl) (by kernel_rfl) (by rfl) (by kernel_rfl) (fun _ _ d _ _ h => by cases d <;> exact h) ?_
  simp only [List.take_succ_cons, List.take_zero]
  repeat ((first
    | refine take_eql_t (by rfl) (by rfl) (by rfl) (by rfl) eqok2 gd2 (Nm.len (n := 12) (by with_reducible first | exact Nm.fe _ | exact Nm.F2 _ | assumption | exact nm_one | exact nm_Z6 | (refine Nm.seg (m := 12) ?_ (by decide); assumption) | exact Nm.seg (m := 12) (Nm.F2 _) (by decide) | exact Nm.app2 (.fe _) (.fe _) | exact nm_rep | exact nm_Z12 | exact nm_two | (refine Nm.app2 ?_ nm_Z6; assumption) | exact Nm.app2 (.fe _) nm_Z6 | exact Nm.app2 nm_rep nm_one | exact ⟨rfl, words_of _ (by decide)⟩ | fail)) (Nm.len (n := 12) (by with_reducible first | exact Nm.fe _ | exact Nm.F2 _ | assumption | exact nm_one | exact nm_Z6 | (refine Nm.seg (m := 12) ?_ (by decide); assumption) | exact Nm.seg (m := 12) (Nm.F2 _) (by decide) | exact Nm.app2 (.fe _) (.fe _) | exact nm_rep | exact nm_Z12 | exact nm_two | (refine Nm.app2 ?_ nm_Z6; assumption) | exact Nm.app2 (.fe _) nm_Z6 | exact Nm.app2 nm_rep nm_one | exact ⟨rfl, words_of _ (by decide)⟩ | fail)) (by with_reducible first | rfl | exact hE.out) ?_
    | refine take_neq_t (by rfl) (by rfl) (by rfl) (by rfl) eqok2 gd2 (Nm.len (n := 12) (by with_reducible first | exact Nm.fe _ | exact Nm.F2 _ | assumption | exact nm_one | exact nm_Z6 | (refine Nm.seg (m := 12) ?_ (by decide); assumption) | exact Nm.seg (m := 12) (Nm.F2 _) (by decide) | exact Nm.app2 (.fe _) (.fe _) | exact nm_rep | exact nm_Z12 | exact nm_two | (refine Nm.app2 ?_ nm_Z6; assumption) | exact Nm.app2 (.fe _) nm_Z6 | exact Nm.app2 nm_rep nm_one | exact ⟨rfl, words_of _ (by decide)⟩ | fail)) (Nm.len (n := 12) (by with_reducible first | exact Nm.fe _ | exact Nm.F2 _ | assumption | exact nm_one | exact nm_Z6 | (refine Nm.seg (m := 12) ?_ (by decide); assumption) | exact Nm.seg (m := 12) (Nm.F2 _) (by decide) | exact Nm.app2 (.fe _) (.fe _) | exact nm_rep | exact nm_Z12 | exact nm_two | (refine Nm.app2 ?_ nm_Z6; assumption) | exact Nm.app2 (.fe _) nm_Z6 | exact Nm.app2 nm_rep nm_one | exact ⟨rfl, words_of _ (by decide)⟩ | fail)) (by with_reducible first | rfl | exact hE.out) ?_
    | refine take_eql_f (by rfl) (by rfl) (by rfl) (by rfl) eqok2 gd2 (Nm.len (n := 12) (by with_reducible first | exact Nm.fe _ | exact Nm.F2 _ | assumption | exact nm_one | exact nm_Z6 | (refine Nm.seg (m := 12) ?_ (by decide); assumption) | exact Nm.seg (m := 12) (Nm.F2 _) (by decide) | exact Nm.app2 (.fe _) (.fe _) | exact nm_rep | exact nm_Z12 | exact nm_two | (refine Nm.app2 ?_ nm_Z6; assumption) | exact Nm.app2 (.fe _) nm_Z6 | exact Nm.app2 nm_rep nm_one | exact ⟨rfl, words_of _ (by decide)⟩ | fail)) (Nm.len (n := 12) (by with_reducible first | exact Nm.fe _ | exact Nm.F2 _ | assumption | exact nm_one | exact nm_Z6 | (refine Nm.seg (m := 12) ?_ (by decide); assumption) | exact Nm.seg (m := 12) (Nm.F2 _) (by decide) | exact Nm.app2 (.fe _) (.fe _) | exact nm_rep | exact nm_Z12 | exact nm_two | (refine Nm.app2 ?_ nm_Z6; assumption) | exact Nm.app2 (.fe _) nm_Z6 | exact Nm.app2 nm_rep nm_one | exact ⟨rfl, words_of _ (by decide)⟩ | fail)) (by with_reducible first | assumption | exact hNe.out) ?_
    | refine take_neq_f (by rfl) (by rfl) (by rfl) (by rfl) eqok2 gd2 (Nm.len (n := 12) (by with_reducible first | exact Nm.fe _ | exact Nm.F2 _ | assumption | exact nm_one | exact nm_Z6 | (refine Nm.seg (m := 12) ?_ (by decide); assumption) | exact Nm.seg (m := 12) (Nm.F2 _) (by decide) | exact Nm.app2 (.fe _) (.fe _) | exact nm_rep | exact nm_Z12 | exact nm_two | (refine Nm.app2 ?_ nm_Z6; assumption) | exact Nm.app2 (.fe _) nm_Z6 | exact Nm.app2 nm_rep nm_one | exact ⟨rfl, words_of _ (by decide)⟩ | fail)) (Nm.len (n := 12) (by with_reducible first | exact Nm.fe _ | exact Nm.F2 _ | assumption | exact nm_one | exact nm_Z6 | (refine Nm.seg (m := 12) ?_ (by decide); assumption) | exact Nm.seg (m := 12) (Nm.F2 _) (by decide) | exact Nm.app2 (.fe _) (.fe _) | exact nm_rep | exact nm_Z12 | exact nm_two | (refine Nm.app2 ?_ nm_Z6; assumption) | exact Nm.app2 (.fe _) nm_Z6 | exact Nm.app2 nm_rep nm_one | exact ⟨rfl, words_of _ (by decide)⟩ | fail)) (by with_reducible first | assumption | exact hNe.out) ?_
    | refine take_load (by rfl) 24 (by rfl) (g := S) (n := 6) (by rfl) (t := 26) (xs := a) (fun w hw => hw.has qa7 (Nat.ne_of_lt qa7.lt)) Tryd.underlying24 rfl (by kernel_rfl) (by rw [ha.len]; decide) ?_
    | refine take_loadw (by rfl) 26 (by rfl) (g := S) (n := 12) (by rfl) (t := 26) (xs := a) (fun w hw => hw.has qa7 (Nat.ne_of_lt qa7.lt)) Tryd.underlying26 rfl (by kernel_rfl) ha.len ?_
    | refine take_load (by rfl) 24 (by rfl) (g := w2.heap.size) (n := 6) (by rfl) (t := 26) (xs := Q) (fun w hw => hw.has qs7 (Nat.ne_of_lt qs7.lt)) Tryd.underlying24 rfl (by kernel_rfl) (by rw [LQ.out]; decide) ?_
    | refine take_loadw (by rfl) 26 (by rfl) (g := w2.heap.size) (n := 12) (by rfl) (t := 26) (xs := Q) (fun w hw => hw.has qs7 (Nat.ne_of_lt qs7.lt)) Tryd.underlying26 rfl (by kernel_rfl) LQ.out ?_
    | refine take_load (by rfl) 24 (by rfl) (g := w4.heap.size) (n := 6) (by rfl) (t := 26) (xs := V) (fun w hw => hw.has qx7 (Nat.ne_of_lt qx7.lt)) Tryd.underlying24 rfl (by kernel_rfl) (by rw [LV.out]; decide) ?_
    | refine take_loadw (by rfl) 26 (by rfl) (g := w4.heap.size) (n := 12) (by rfl) (t := 26) (xs := V) (fun w hw => hw.has qx7 (Nat.ne_of_lt qx7.lt)) Tryd.underlying26 rfl (by kernel_rfl) LV.out ?_
    | refine take_load (by rfl) 24 (by rfl) (g := w6.heap.size) (n := 6) (by rfl) (t := 26) (xs := Y) (fun w hw => hw.has qy7 (Nat.ne_of_lt qy7.lt)) Tryd.underlying24 rfl (by kernel_rfl) (by rw [LY.out]; decide) ?_
    | refine take_loadw (by rfl) 26 (by rfl) (g := w6.heap.size) (n := 12) (by rfl) (t := 26) (xs := Y) (fun w hw => hw.has qy7 (Nat.ne_of_lt qy7.lt)) Tryd.underlying26 rfl (by kernel_rfl) LY.out ?_
    | refine wpTake_cons (.inl ⟨by rfl, fun w hw => (by unfold Oper.quietAt; go_simp; (first | with_reducible refine P4.out _ (HD.out _ (hb7.trans (hw.below (HSS.out _ hb7) (HSS.out _ hb7)))) | with_reducible refine P5.out _ (HG.out _ (hb7.trans (hw.below (HSS.out _ hb7) (HSS.out _ hb7)))) | with_reducible refine P6.out _ (HD.out _ (hb7.trans (hw.below (HSS.out _ hb7) (HSS.out _ hb7)))) | with_reducible refine P7.out _ (HG.out _ (hb7.trans (hw.below (HSS.out _ hb7) (HSS.out _ hb7))))) <;> (with_reducible first | exact Nm.fe _ | exact Nm.F2 _ | assumption | exact nm_one | exact nm_Z6 | (refine Nm.seg (m := 12) ?_ (by decide); assumption) | exact Nm.seg (m := 12) (Nm.F2 _) (by decide) | exact Nm.app2 (.fe _) (.fe _) | exact nm_rep | exact nm_Z12 | exact nm_two | (refine Nm.app2 ?_ nm_Z6; assumption) | exact Nm.app2 (.fe _) nm_Z6 | exact Nm.app2 nm_rep nm_one | exact ⟨rfl, words_of _ (by decide)⟩ | fail))⟩) ?_
    | refine take_skip (by rfl) ?_
    | refine wpTake_cons (Steady.of_yields (Or.inl ⟨by rfl, fun w => (by first | (go_simp; done) | (go_simp; with_reducible rfl))⟩)) ?_); simp only [List.getElem_toArray, List.getElem_cons_zero, List.getElem_cons_succ, Act.put, List.setIfInBounds_toArray, List.set_cons_zero, List.set_cons_succ])
  refine wpTake_nil ?_
  refine wpAnyU_end (by kernel_rfl) (fun w8 hq0 => ?_)
  have hq := (drawn_below w7).trans hq0
  have qa8 := qa7.keep hq
  have qs8 := qs7.keep hq
  have qx8 := qx7.keep hq
  have qy8 := qy7.keep hq
  have hb8 := hb7.trans (hq.mono (HSS.out _ hb7))
  clear hq0 hq hb7 qa7 qs7 qx7 qy7
  go_wp2
  go_ret
  exact ⟨rfl, hb8⟩

set_option maxRecDepth 100000 in
set_option maxHeartbeats 4000000 in
theorem back_w (a : List Int) (ha : Nm 12 a) (w : World) (hG : GlobD w) : Calls Tryd.prog 4 #[.agg (vals .u64 a)] w fun e w' => e = .returned (.bool true) ∧ Below w.heap.size w w' := by
  by_cases h : ev2 (v2 a) = F2 (v2 a)
  · exact back_even a ha w hG h
  · rcases ev2_or (v2 a) with h2 | h2
    · exact absurd h2 h
    · exact back_odd a ha w hG h2 h

set_option maxRecDepth 100000 in
set_option maxHeartbeats 4000000 in
theorem sides_zero (a : List Int) (ha : Nm 12 a) (w : World) (hG : GlobD w) (hz : Z2 (v2 a)) : Calls Tryd.prog 7 #[.agg (vals .u64 a)] w fun e w' => e = .returned (.bool true) ∧ Below w.heap.size w w' := by
  obtain ⟨Y, hY⟩ : ∃ o, F2 (v2 a) = o := ⟨_, rfl⟩
  have nY : Nm 12 Y := hY ▸ .F2 _
  have LY : Keep (Y.length = 12) := ⟨nY.len⟩
  have hy : Fp2.E2 (v2 Y) (v2 a) := by rw [← hY]; exact v2_F2 _
  have P1 : Keep (∀ x : World, Glob x → Calls Tryd.prog 17 #[.agg (vals .u64 a)] x fun e x' => e = .returned (.agg (vals .u64 Y)) ∧ Below x.heap.size x x') := ⟨fun x hG => by
    have h9 := lRed2 a ha x hG
    rwa [hY] at h9⟩
  have P2 : Keep (∀ x : World, GlobD x → Calls Tryd.prog 12 #[.agg (vals .u64 a)] x fun e x' => e = .returned (.int .i64 0) ∧ Below x.heap.size x x') := ⟨fun x hG => by
    have h9 := lSg a ha x hG
    rwa [sg2_zero hz] at h9⟩
  have P3 : Keep (∀ x : World, GlobD x → Calls Tryd.prog 14 #[.agg (vals .u64 a)] x fun e x' => e = .returned (.bool false) ∧ Below x.heap.size x x') := ⟨fun x hG => by
    have h9 := lBg a ha x hG
    rwa [big2_zero hz] at h9⟩
  have hE : Keep (Y = [0, 0, 0, 0, 0, 0, 0, 0, 0, 0, 0, 0]) := ⟨by rw [← hY]; exact (F2_zero _).2 hz⟩
  have E1 : ∀ w : World, (Op.equalIn 10000 26 (.agg (vals .u64 Y)) (.agg (vals .u64 [0, 0, 0, 0, 0, 0, 0, 0, 0, 0, 0, 0]))).run Tryd.prog w = .ok true w := fun w => by rw [eqok2 w Y [0, 0, 0, 0, 0, 0, 0, 0, 0, 0, 0, 0] nY.len rfl, decide_eq_true hE.out]
  have hgd := gd2
  obtain ⟨S, hS⟩ : ∃ S, w.heap.size = S := ⟨_, rfl⟩
  have qa0 : Has (w.alloc (.cells (vals .u64 a) 26)) (S) 26 (vals .u64 a) := (Has.new' _ hS.symm _ _)
  have hb0 : Below S w (w.alloc (.cells (vals .u64 a) 26)) := by rw [← hS]; exact ((Below.refl _ _).alloc (Nat.le_refl _) _)
  have hsz0 : (w.alloc (.cells (vals .u64 a) 26)).heap.size = S + 1 := by simp only [World.size_alloc, hS]
  have HSS : Keep (∀ x : World, Below S w x → S ≤ x.heap.size) := ⟨fun x hb => Nat.le_trans (by omega) hb.size⟩
  have HD : Keep (∀ x : World, Below S w x → GlobD x) := ⟨fun x hb => hG.keep (by rw [hS]; exact hb)⟩
  have HG : Keep (∀ x : World, Below S w x → Glob x) := ⟨fun x hb => (HD.out x hb).toGlob⟩
  clear hG
  clear hz hY hy
  rw [hS]
  go_enter Tryd.func7, Tryd.ntmps7
  go_wp2_with (first
    | (refine wpList_unguard (by rfl) ?_; refine wpList_load_row rfl 26 (.tmp 1) rfl (S) rfl _ _ _ _ qa4.eq Tryd.underlying26 rfl (by rw [vals_size, ha.len]; kernel_rfl) ?_; dsimp only; simp only [Act.put, List.setIfInBounds_toArray, List.set_cons_zero, List.set_cons_succ])
    | (refine wpList_unguard (by rfl) ?_; refine wpList_load_row rfl 26 (.tmp 1) rfl (S) rfl _ _ _ _ qa3.eq Tryd.underlying26 rfl (by rw [vals_size, ha.len]; kernel_rfl) ?_; dsimp only; simp only [Act.put, List.setIfInBounds_toArray, List.set_cons_zero, List.set_cons_succ])
    | (have hq0 := hb4
       clear hq0
       go_at_call 14
       refine (P3.out _ (HD.out _ hb4)).mono ?_
       rintro e w5 ⟨rfl, hq⟩
       have qa5 := qa4.keep hq
       have qx5 := qx4.keep hq
       have hb5 := hb4.trans (hq.mono (HSS.out _ hb4))
       clear hq hb4 qa4 qx4)
    | (have hq0 := hb3
       clear hq0
       go_at_call 12
       refine (P2.out _ (HD.out _ hb3)).mono ?_
       rintro e w4 ⟨rfl, hq⟩
       have qa4 := qa3.keep hq
       have qx4 := qx3.keep hq
       have hb4 := hb3.trans (hq.mono (HSS.out _ hb3))
       clear hq hb3 qa3 qx3)
    | (refine wpList_buildTo (by rfl) 26 #[] (by rfl) (some 9) (by rfl) (vals .u64 [0, 0, 0, 0, 0, 0, 0, 0, 0, 0, 0, 0]) (by kernel_rfl) ?_)
    | (refine wpList_load_row rfl 26 (.tmp 4) rfl (w2.heap.size) rfl _ _ _ _ qx3.eq Tryd.underlying26 rfl (by rw [vals_size, LY.out]; kernel_rfl) ?_)
    | (refine store_abs2 (by rfl) 26 (.tmp 4) (.tmp 7) (by rfl) (by rfl) (w2.heap.size) (vals .u64 Y) (by rfl) (by rfl) 26 (vals .u64 Fp2.Z12) (Has.new' _ rfl _ _) (by rw [vals_size, LY.out]; kernel_rfl) (by first | (rw [vals_size, vals_size, LY.out]; rfl) | rfl) vals_one ?_
       intro w3 qx3 hkeep hbg
       have hbe := ((Below.refl w2.heap.size w2).alloc (Nat.le_refl _) (.cells (vals .u64 Fp2.Z12) 26)).trans hbg
       have Nax := qa2.lt
       have qa3 := qa2.keep hbe
       have Mx : S ≤ w2.heap.size := HSS.out _ hb2
       have hb3 := hb2.trans (hbe.mono (HSS.out _ hb2))
       clear hkeep hbg hbe hb2 qa2)
    | (have hq0 := hb1
       clear hq0
       go_at_call 17
       refine (P1.out _ (HG.out _ hb1)).mono ?_
       rintro e w2 ⟨rfl, hq⟩
       have qa2 := qa1.keep hq
       have hb2 := hb1.trans (hq.mono (HSS.out _ hb1))
       clear hq hb1 qa1)
    | (refine wpList_load_row rfl 26 (.tmp 1) rfl (S) rfl _ _ _ _ qa1.eq Tryd.underlying26 rfl (by rw [vals_size, ha.len]; kernel_rfl) ?_)
    | (have hq0 := hb0
       clear hq0
       go_at_call 8
       refine (awake_c _ (HD.out _ hb0)).mono ?_
       rintro e w1 ⟨rfl, hq⟩
       have qa1 := qa0.keep hq
       have hb1 := hb0.trans (hq.mono (HSS.out _ hb0))
       clear hq hb0 qa0))
  go_ret
  exact ⟨rfl, hb5⟩

set_option maxRecDepth 100000 in
set_option maxHeartbeats 4000000 in
theorem sides_0false (a : List Int) (ha : Nm 12 a) (w : World) (hG : GlobD w) (hz : ¬ Z2 (v2 a)) (h1 : sg2 (v2 a) = 0) (h2 : big2 (v2 a) = false) : Calls Tryd.prog 7 #[.agg (vals .u64 a)] w fun e w' => e = .returned (.bool true) ∧ Below w.heap.size w w' := by
  obtain ⟨Y, hY⟩ : ∃ o, F2 (v2 a) = o := ⟨_, rfl⟩
  have nY : Nm 12 Y := hY ▸ .F2 _
  have LY : Keep (Y.length = 12) := ⟨nY.len⟩
  have hy : Fp2.E2 (v2 Y) (v2 a) := by rw [← hY]; exact v2_F2 _
  have P1 : Keep (∀ x : World, Glob x → Calls Tryd.prog 17 #[.agg (vals .u64 a)] x fun e x' => e = .returned (.agg (vals .u64 Y)) ∧ Below x.heap.size x x') := ⟨fun x hG => by
    have h9 := lRed2 a ha x hG
    rwa [hY] at h9⟩
  obtain ⟨N, hN⟩ : ∃ o, F2 (gn (v2 a)) = o := ⟨_, rfl⟩
  have nN : Nm 12 N := hN ▸ .F2 _
  have LN : Keep (N.length = 12) := ⟨nN.len⟩
  have hn : Fp2.E2 (v2 N) (gn (v2 a)) := by rw [← hN]; exact v2_F2 _
  have P2 : Keep (∀ x : World, GlobD x → Calls Tryd.prog 12 #[.agg (vals .u64 a)] x fun e x' => e = .returned (.int .i64 0) ∧ Below x.heap.size x x') := ⟨fun x hG => by
    have h9 := lSg a ha x hG
    rwa [h1] at h9⟩
  have P3 : Keep (∀ x : World, GlobD x → Calls Tryd.prog 14 #[.agg (vals .u64 a)] x fun e x' => e = .returned (.bool false) ∧ Below x.heap.size x x') := ⟨fun x hG => by
    have h9 := lBg a ha x hG
    rwa [h2] at h9⟩
  have P4 : Keep (∀ x : World, Glob x → Calls Tryd.prog 18 #[.agg (vals .u64 a)] x fun e x' => e = .returned (.agg (vals .u64 N)) ∧ Below x.heap.size x x') := ⟨fun x hG => by
    have h9 := lNeg2 a ha x hG
    rwa [hN] at h9⟩
  have P5 : Keep (∀ x : World, GlobD x → Calls Tryd.prog 12 #[.agg (vals .u64 N)] x fun e x' => e = .returned (.int .i64 1) ∧ Below x.heap.size x x') := ⟨fun x hG => by
    have h9 := lSg N nN x hG
    rwa [sg2_congr hn, sg2_neg hz, h1] at h9⟩
  have P6 : Keep (∀ x : World, GlobD x → Calls Tryd.prog 14 #[.agg (vals .u64 N)] x fun e x' => e = .returned (.bool true) ∧ Below x.heap.size x x') := ⟨fun x hG => by
    have h9 := lBg N nN x hG
    rwa [big2_congr hn, big2_neg hz, h2] at h9⟩
  have P7 : Keep (∀ x : World, GlobD x → Calls Tryd.prog 12 #[.agg (vals .u64 Y)] x fun e x' => e = .returned (.int .i64 0) ∧ Below x.heap.size x x') := ⟨fun x hG => by
    have h9 := lSg Y nY x hG
    rwa [sg2_congr hy, h1] at h9⟩
  have hE : Keep (Y ≠ [0, 0, 0, 0, 0, 0, 0, 0, 0, 0, 0, 0]) := ⟨by rw [← hY]; exact fun h0 => hz ((F2_zero _).1 h0)⟩
  have E1 := neq12 (m := [0, 0, 0, 0, 0, 0, 0, 0, 0, 0, 0, 0]) nY.len rfl hE.out
  have hgd := gd2
  obtain ⟨S, hS⟩ : ∃ S, w.heap.size = S := ⟨_, rfl⟩
  have qa0 : Has (w.alloc (.cells (vals .u64 a) 26)) (S) 26 (vals .u64 a) := (Has.new' _ hS.symm _ _)
  have hb0 : Below S w (w.alloc (.cells (vals .u64 a) 26)) := by rw [← hS]; exact ((Below.refl _ _).alloc (Nat.le_refl _) _)
  have hsz0 : (w.alloc (.cells (vals .u64 a) 26)).heap.size = S + 1 := by simp only [World.size_alloc, hS]
  have HSS : Keep (∀ x : World, Below S w x → S ≤ x.heap.size) := ⟨fun x hb => Nat.le_trans (by omega) hb.size⟩
  have HD : Keep (∀ x : World, Below S w x → GlobD x) := ⟨fun x hb => hG.keep (by rw [hS]; exact hb)⟩
  have HG : Keep (∀ x : World, Below S w x → Glob x) := ⟨fun x hb => (HD.out x hb).toGlob⟩
  clear hG
  clear hz hY hy hN hn h1 h2
  rw [hS]
  go_enter Tryd.func7, Tryd.ntmps7
  go_wp2_with (first
    | (refine wpList_buildTo (by rfl) 26 #[] (by rfl) (some 9) (by rfl) (vals .u64 [0, 0, 0, 0, 0, 0, 0, 0, 0, 0, 0, 0]) (by kernel_rfl) ?_)
    | (refine wpList_load_row rfl 26 (.tmp 4) rfl (w2.heap.size) rfl _ _ _ _ qx3.eq Tryd.underlying26 rfl (by rw [vals_size, LY.out]; kernel_rfl) ?_)
    | (refine store_abs2 (by rfl) 26 (.tmp 4) (.tmp 7) (by rfl) (by rfl) (w2.heap.size) (vals .u64 Y) (by rfl) (by rfl) 26 (vals .u64 Fp2.Z12) (Has.new' _ rfl _ _) (by rw [vals_size, LY.out]; kernel_rfl) (by first | (rw [vals_size, vals_size, LY.out]; rfl) | rfl) vals_one ?_
       intro w3 qx3 hkeep hbg
       have hbe := ((Below.refl w2.heap.size w2).alloc (Nat.le_refl _) (.cells (vals .u64 Fp2.Z12) 26)).trans hbg
       have Nax := qa2.lt
       have qa3 := qa2.keep hbe
       have Mx : S ≤ w2.heap.size := HSS.out _ hb2
       have hb3 := hb2.trans (hbe.mono (HSS.out _ hb2))
       clear hkeep hbg hbe hb2 qa2)
    | (have hq0 := hb1
       clear hq0
       go_at_call 17
       refine (P1.out _ (HG.out _ hb1)).mono ?_
       rintro e w2 ⟨rfl, hq⟩
       have qa2 := qa1.keep hq
       have hb2 := hb1.trans (hq.mono (HSS.out _ hb1))
       clear hq hb1 qa1)
    | (refine wpList_load_row rfl 26 (.tmp 1) rfl (S) rfl _ _ _ _ qa1.eq Tryd.underlying26 rfl (by rw [vals_size, ha.len]; kernel_rfl) ?_)
    | (have hq0 := hb0
       clear hq0
       go_at_call 8
       refine (awake_c _ (HD.out _ hb0)).mono ?_
       rintro e w1 ⟨rfl, hq⟩
       have qa1 := qa0.keep hq
       have hb1 := hb0.trans (hq.mono (HSS.out _ hb0))
       clear hq hb0 qa0))
  refine wp_reads 26 0 w3.heap.size (by kernel_rfl) (by kernel_rfl) (by rfl) (by kernel_rfl) (fun _ _ d _ _ h => by cases d <;> exact h) ?_
  simp only [List.take_succ_cons, List.take_zero]
  repeat ((first
    | refine take_eql_t (by rfl) (by rfl) (by rfl) (by rfl) eqok2 gd2 (Nm.len (n := 12) (by with_reducible first | exact Nm.fe _ | exact Nm.F2 _ | assumption | exact nm_one | exact nm_Z6 | (refine Nm.seg (m := 12) ?_ (by decide); assumption) | exact Nm.seg (m := 12) (Nm.F2 _) (by decide) | exact Nm.app2 (.fe _) (.fe _) | exact nm_rep | exact nm_Z12 | exact nm_two | (refine Nm.app2 ?_ nm_Z6; assumption) | exact Nm.app2 (.fe _) nm_Z6 | exact Nm.app2 nm_rep nm_one | exact ⟨rfl, words_of _ (by decide)⟩ | fail)) (Nm.len (n := 12) (by with_reducible first | exact Nm.fe _ | exact Nm.F2 _ | assumption | exact nm_one | exact nm_Z6 | (refine Nm.seg (m := 12) ?_ (by decide); assumption) | exact Nm.seg (m := 12) (Nm.F2 _) (by decide) | exact Nm.app2 (.fe _) (.fe _) | exact nm_rep | exact nm_Z12 | exact nm_two | (refine Nm.app2 ?_ nm_Z6; assumption) | exact Nm.app2 (.fe _) nm_Z6 | exact Nm.app2 nm_rep nm_one | exact ⟨rfl, words_of _ (by decide)⟩ | fail)) (by with_reducible first | rfl) ?_
    | refine take_neq_t (by rfl) (by rfl) (by rfl) (by rfl) eqok2 gd2 (Nm.len (n := 12) (by with_reducible first | exact Nm.fe _ | exact Nm.F2 _ | assumption | exact nm_one | exact nm_Z6 | (refine Nm.seg (m := 12) ?_ (by decide); assumption) | exact Nm.seg (m := 12) (Nm.F2 _) (by decide) | exact Nm.app2 (.fe _) (.fe _) | exact nm_rep | exact nm_Z12 | exact nm_two | (refine Nm.app2 ?_ nm_Z6; assumption) | exact Nm.app2 (.fe _) nm_Z6 | exact Nm.app2 nm_rep nm_one | exact ⟨rfl, words_of _ (by decide)⟩ | fail)) (Nm.len (n := 12) (by with_reducible first | exact Nm.fe _ | exact Nm.F2 _ | assumption | exact nm_one | exact nm_Z6 | (refine Nm.seg (m := 12) ?_ (by decide); assumption) | exact Nm.seg (m := 12) (Nm.F2 _) (by decide) | exact Nm.app2 (.fe _) (.fe _) | exact nm_rep | exact nm_Z12 | exact nm_two | (refine Nm.app2 ?_ nm_Z6; assumption) | exact Nm.app2 (.fe _) nm_Z6 | exact Nm.app2 nm_rep nm_one | exact ⟨rfl, words_of _ (by decide)⟩ | fail)) (by with_reducible first | rfl) ?_
    | refine take_eql_f (by rfl) (by rfl) (by rfl) (by rfl) eqok2 gd2 (Nm.len (n := 12) (by with_reducible first | exact Nm.fe _ | exact Nm.F2 _ | assumption | exact nm_one | exact nm_Z6 | (refine Nm.seg (m := 12) ?_ (by decide); assumption) | exact Nm.seg (m := 12) (Nm.F2 _) (by decide) | exact Nm.app2 (.fe _) (.fe _) | exact nm_rep | exact nm_Z12 | exact nm_two | (refine Nm.app2 ?_ nm_Z6; assumption) | exact Nm.app2 (.fe _) nm_Z6 | exact Nm.app2 nm_rep nm_one | exact ⟨rfl, words_of _ (by decide)⟩ | fail)) (Nm.len (n := 12) (by with_reducible first | exact Nm.fe _ | exact Nm.F2 _ | assumption | exact nm_one | exact nm_Z6 | (refine Nm.seg (m := 12) ?_ (by decide); assumption) | exact Nm.seg (m := 12) (Nm.F2 _) (by decide) | exact Nm.app2 (.fe _) (.fe _) | exact nm_rep | exact nm_Z12 | exact nm_two | (refine Nm.app2 ?_ nm_Z6; assumption) | exact Nm.app2 (.fe _) nm_Z6 | exact Nm.app2 nm_rep nm_one | exact ⟨rfl, words_of _ (by decide)⟩ | fail)) (by with_reducible first | assumption) ?_
    | refine take_neq_f (by rfl) (by rfl) (by rfl) (by rfl) eqok2 gd2 (Nm.len (n := 12) (by with_reducible first | exact Nm.fe _ | exact Nm.F2 _ | assumption | exact nm_one | exact nm_Z6 | (refine Nm.seg (m := 12) ?_ (by decide); assumption) | exact Nm.seg (m := 12) (Nm.F2 _) (by decide) | exact Nm.app2 (.fe _) (.fe _) | exact nm_rep | exact nm_Z12 | exact nm_two | (refine Nm.app2 ?_ nm_Z6; assumption) | exact Nm.app2 (.fe _) nm_Z6 | exact Nm.app2 nm_rep nm_one | exact ⟨rfl, words_of _ (by decide)⟩ | fail)) (Nm.len (n := 12) (by with_reducible first | exact Nm.fe _ | exact Nm.F2 _ | assumption | exact nm_one | exact nm_Z6 | (refine Nm.seg (m := 12) ?_ (by decide); assumption) | exact Nm.seg (m := 12) (Nm.F2 _) (by decide) | exact Nm.app2 (.fe _) (.fe _) | exact nm_rep | exact nm_Z12 | exact nm_two | (refine Nm.app2 ?_ nm_Z6; assumption) | exact Nm.app2 (.fe _) nm_Z6 | exact Nm.app2 nm_rep nm_one | exact ⟨rfl, words_of _ (by decide)⟩ | fail)) (by with_reducible first | assumption) ?_
    | refine take_load (by rfl) 24 (by rfl) (g := S) (n := 6) (by rfl) (t := 26) (xs := a) (fun w hw => hw.has qa3 (Nat.ne_of_lt qa3.lt)) Tryd.underlying24 rfl (by kernel_rfl) (by rw [ha.len]; decide) ?_
    | refine take_loadw (by rfl) 26 (by rfl) (g := S) (n := 12) (by rfl) (t := 26) (xs := a) (fun w hw => hw.has qa3 (Nat.ne_of_lt qa3.lt)) Tryd.underlying26 rfl (by kernel_rfl) ha.len ?_
    | refine take_load (by rfl) 24 (by rfl) (g := w2.heap.size) (n := 6) (by rfl) (t := 26) (xs := Y) (fun w hw => hw.has qx3 (Nat.ne_of_lt qx3.lt)) Tryd.underlying24 rfl (by kernel_rfl) (by rw [LY.out]; decide) ?_
    | refine take_loadw (by rfl) 26 (by rfl) (g := w2.heap.size) (n := 12) (by rfl) (t := 26) (xs := Y) (fun w hw => hw.has qx3 (Nat.ne_of_lt qx3.lt)) Tryd.underlying26 rfl (by kernel_rfl) LY.out ?_
    | refine wpTake_cons (.inl ⟨by rfl, fun w hw => (by unfold Oper.quietAt; go_simp; (first | with_reducible refine P2.out _ (HD.out _ (hb3.trans (hw.below (HSS.out _ hb3) (HSS.out _ hb3)))) | with_reducible refine P3.out _ (HD.out _ (hb3.trans (hw.below (HSS.out _ hb3) (HSS.out _ hb3)))) | with_reducible refine P4.out _ (HG.out _ (hb3.trans (hw.below (HSS.out _ hb3) (HSS.out _ hb3)))) | with_reducible refine P5.out _ (HD.out _ (hb3.trans (hw.below (HSS.out _ hb3) (HSS.out _ hb3)))) | with_reducible refine P6.out _ (HD.out _ (hb3.trans (hw.below (HSS.out _ hb3) (HSS.out _ hb3)))) | with_reducible refine P7.out _ (HD.out _ (hb3.trans (hw.below (HSS.out _ hb3) (HSS.out _ hb3))))) <;> (with_reducible first | exact Nm.fe _ | exact Nm.F2 _ | assumption | exact nm_one | exact nm_Z6 | (refine Nm.seg (m := 12) ?_ (by decide); assumption) | exact Nm.seg (m := 12) (Nm.F2 _) (by decide) | exact Nm.app2 (.fe _) (.fe _) | exact nm_rep | exact nm_Z12 | exact nm_two | (refine Nm.app2 ?_ nm_Z6; assumption) | exact Nm.app2 (.fe _) nm_Z6 | exact Nm.app2 nm_rep nm_one | exact ⟨rfl, words_of _ (by decide)⟩ | fail))⟩) ?_
    | refine take_skip (by rfl) ?_
    | refine wpTake_cons (Steady.of_yields (Or.inl ⟨by rfl, fun w => (by first | (go_simp; done) | (go_simp; with_reducible rfl))⟩)) ?_); simp only [List.getElem_toArray, List.getElem_cons_zero, List.getElem_cons_succ, Act.put, List.setIfInBounds_toArray, List.set_cons_zero, List.set_cons_succ])
  refine wpTake_nil ?_
  refine wpAnyU_end (by kernel_rfl) (fun w4 hq0 => ?_)
  have hq := (drawn_below w3).trans hq0
  have qa4 := qa3.keep hq
  have qx4 := qx3.keep hq
  have hb4 := hb3.trans (hq.mono (HSS.out _ hb3))
  clear hq0 hq hb3 qa3 qx3
  go_wp2
  go_ret
  exact ⟨rfl, hb4⟩

set_option maxRecDepth 100000 in
set_option maxHeartbeats 4000000 in
theorem sides_0true (a : List Int) (ha : Nm 12 a) (w : World) (hG : GlobD w) (hz : ¬ Z2 (v2 a)) (h1 : sg2 (v2 a) = 0) (h2 : big2 (v2 a) = true) : Calls Tryd.prog 7 #[.agg (vals .u64 a)] w fun e w' => e = .returned (.bool true) ∧ Below w.heap.size w w' := by
  obtain ⟨Y, hY⟩ : ∃ o, F2 (v2 a) = o := ⟨_, rfl⟩
  have nY : Nm 12 Y := hY ▸ .F2 _
  have LY : Keep (Y.length = 12) := ⟨nY.len⟩
  have hy : Fp2.E2 (v2 Y) (v2 a) := by rw [← hY]; exact v2_F2 _
  have P1 : Keep (∀ x : World, Glob x → Calls Tryd.prog 17 #[.agg (vals .u64 a)] x fun e x' => e = .returned (.agg (vals .u64 Y)) ∧ Below x.heap.size x x') := ⟨fun x hG => by
    have h9 := lRed2 a ha x hG
    rwa [hY] at h9⟩
  obtain ⟨N, hN⟩ : ∃ o, F2 (gn (v2 a)) = o := ⟨_, rfl⟩
  have nN : Nm 12 N := hN ▸ .F2 _
  have LN : Keep (N.length = 12) := ⟨nN.len⟩
  have hn : Fp2.E2 (v2 N) (gn (v2 a)) := by rw [← hN]; exact v2_F2 _
  have P2 : Keep (∀ x : World, GlobD x → Calls Tryd.prog 12 #[.agg (vals .u64 a)] x fun e x' => e = .returned (.int .i64 0) ∧ Below x.heap.size x x') := ⟨fun x hG => by
    have h9 := lSg a ha x hG
    rwa [h1] at h9⟩
  have P3 : Keep (∀ x : World, GlobD x → Calls Tryd.prog 14 #[.agg (vals .u64 a)] x fun e x' => e = .returned (.bool true) ∧ Below x.heap.size x x') := ⟨fun x hG => by
    have h9 := lBg a ha x hG
    rwa [h2] at h9⟩
  have P4 : Keep (∀ x : World, Glob x → Calls Tryd.prog 18 #[.agg (vals .u64 a)] x fun e x' => e = .returned (.agg (vals .u64 N)) ∧ Below x.heap.size x x') := ⟨fun x hG => by
    have h9 := lNeg2 a ha x hG
    rwa [hN] at h9⟩
  have P5 : Keep (∀ x : World, GlobD x → Calls Tryd.prog 12 #[.agg (vals .u64 N)] x fun e x' => e = .returned (.int .i64 1) ∧ Below x.heap.size x x') := ⟨fun x hG => by
    have h9 := lSg N nN x hG
    rwa [sg2_congr hn, sg2_neg hz, h1] at h9⟩
  have P6 : Keep (∀ x : World, GlobD x → Calls Tryd.prog 14 #[.agg (vals .u64 N)] x fun e x' => e = .returned (.bool false) ∧ Below x.heap.size x x') := ⟨fun x hG => by
    have h9 := lBg N nN x hG
    rwa [big2_congr hn, big2_neg hz, h2] at h9⟩
  have P7 : Keep (∀ x : World, GlobD x → Calls Tryd.prog 12 #[.agg (vals .u64 Y)] x fun e x' => e = .returned (.int .i64 0) ∧ Below x.heap.size x x') := ⟨fun x hG => by
    have h9 := lSg Y nY x hG
    rwa [sg2_congr hy, h1] at h9⟩
  have hE : Keep (Y ≠ [0, 0, 0, 0, 0, 0, 0, 0, 0, 0, 0, 0]) := ⟨by rw [← hY]; exact fun h0 => hz ((F2_zero _).1 h0)⟩
  have E1 := neq12 (m := [0, 0, 0, 0, 0, 0, 0, 0, 0, 0, 0, 0]) nY.len rfl hE.out
  have hgd := gd2
  obtain ⟨S, hS⟩ : ∃ S, w.heap.size = S := ⟨_, rfl⟩
  have qa0 : Has (w.alloc (.cells (vals .u64 a) 26)) (S) 26 (vals .u64 a) := (Has.new' _ hS.symm _ _)
  have hb0 : Below S w (w.alloc (.cells (vals .u64 a) 26)) := by rw [← hS]; exact ((Below.refl _ _).alloc (Nat.le_refl _) _)
  have hsz0 : (w.alloc (.cells (vals .u64 a) 26)).heap.size = S + 1 := by simp only [World.size_alloc, hS]
  have HSS : Keep (∀ x : World, Below S w x → S ≤ x.heap.size) := ⟨fun x hb => Nat.le_trans (by omega) hb.size⟩
  have HD : Keep (∀ x : World, Below S w x → GlobD x) := ⟨fun x hb => hG.keep (by rw [hS]; exact hb)⟩
  have HG : Keep (∀ x : World, Below S w x → Glob x) := ⟨fun x hb => (HD.out x hb).toGlob⟩
  clear hG
  clear hz hY hy hN hn h1 h2
  rw [hS]
  go_enter Tryd.func7, Tryd.ntmps7
  go_wp2_with (first
    | (refine wpList_buildTo (by rfl) 26 #[] (by rfl) (some 9) (by rfl) (vals .u64 [0, 0, 0, 0, 0, 0, 0, 0, 0, 0, 0, 0]) (by kernel_rfl) ?_)
    | (refine wpList_load_row rfl 26 (.tmp 4) rfl (w2.heap.size) rfl _ _ _ _ qx3.eq Tryd.underlying26 rfl (by rw [vals_size, LY.out]; kernel_rfl) ?_)
    | (refine store_abs2 (by rfl) 26 (.tmp 4) (.tmp 7) (by rfl) (by rfl) (w2.heap.size) (vals .u64 Y) (by rfl) (by rfl) 26 (vals .u64 Fp2.Z12) (Has.new' _ rfl _ _) (by rw [vals_size, LY.out]; kernel_rfl) (by first | (rw [vals_size, vals_size, LY.out]; rfl) | rfl) vals_one ?_
       intro w3 qx3 hkeep hbg
       have hbe := ((Below.refl w2.heap.size w2).alloc (Nat.le_refl _) (.cells (vals .u64 Fp2.Z12) 26)).trans hbg
       have Nax := qa2.lt
       have qa3 := qa2.keep hbe
       have Mx : S ≤ w2.heap.size := HSS.out _ hb2
       have hb3 := hb2.trans (hbe.mono (HSS.out _ hb2))
       clear hkeep hbg hbe hb2 qa2)
    | (have hq0 := hb1
       clear hq0
       go_at_call 17
       refine (P1.out _ (HG.out _ hb1)).mono ?_
       rintro e w2 ⟨rfl, hq⟩
       have qa2 := qa1.keep hq
       have hb2 := hb1.trans (hq.mono (HSS.out _ hb1))
       clear hq hb1 qa1)
    | (refine wpList_load_row rfl 26 (.tmp 1) rfl (S) rfl _ _ _ _ qa1.eq Tryd.underlying26 rfl (by rw [vals_size, ha.len]; kernel_rfl) ?_)
    | (have hq0 := hb0
       clear hq0
       go_at_call 8
       refine (awake_c _ (HD.out _ hb0)).mono ?_
       rintro e w1 ⟨rfl, hq⟩
       have qa1 := qa0.keep hq
       have hb1 := hb0.trans (hq.mono (HSS.out _ hb0))
       clear hq hb0 qa0))
  refine wp_reads 26 0 w3.heap.size (by kernel_rfl) (by kernel_rfl) (by rfl) (by kernel_rfl) (fun _ _ d _ _ h => by cases d <;> exact h) ?_
  simp only [List.take_succ_cons, List.take_zero]
  repeat ((first
    | refine take_eql_t (by rfl) (by rfl) (by rfl) (by rfl) eqok2 gd2 (Nm.len (n := 12) (by with_reducible first | exact Nm.fe _ | exact Nm.F2 _ | assumption | exact nm_one | exact nm_Z6 | (refine Nm.seg (m := 12) ?_ (by decide); assumption) | exact Nm.seg (m := 12) (Nm.F2 _) (by decide) | exact Nm.app2 (.fe _) (.fe _) | exact nm_rep | exact nm_Z12 | exact nm_two | (refine Nm.app2 ?_ nm_Z6; assumption) | exact Nm.app2 (.fe _) nm_Z6 | exact Nm.app2 nm_rep nm_one | exact ⟨rfl, words_of _ (by decide)⟩ | fail)) (Nm.len (n := 12) (by with_reducible first | exact Nm.fe _ | exact Nm.F2 _ | assumption | exact nm_one | exact nm_Z6 | (refine Nm.seg (m := 12) ?_ (by decide); assumption) | exact Nm.seg (m := 12) (Nm.F2 _) (by decide) | exact Nm.app2 (.fe _) (.fe _) | exact nm_rep | exact nm_Z12 | exact nm_two | (refine Nm.app2 ?_ nm_Z6; assumption) | exact Nm.app2 (.fe _) nm_Z6 | exact Nm.app2 nm_rep nm_one | exact ⟨rfl, words_of _ (by decide)⟩ | fail)) (by with_reducible first | rfl) ?_
    | refine take_neq_t (by rfl) (by rfl) (by rfl) (by rfl) eqok2 gd2 (Nm.len (n := 12) (by with_reducible first | exact Nm.fe _ | exact Nm.F2 _ | assumption | exact nm_one | exact nm_Z6 | (refine Nm.seg (m := 12) ?_ (by decide); assumption) | exact Nm.seg (m := 12) (Nm.F2 _) (by decide) | exact Nm.app2 (.fe _) (.fe _) | exact nm_rep | exact nm_Z12 | exact nm_two | (refine Nm.app2 ?_ nm_Z6; assumption) | exact Nm.app2 (.fe _) nm_Z6 | exact Nm.app2 nm_rep nm_one | exact ⟨rfl, words_of _ (by decide)⟩ | fail)) (Nm.len (n := 12) (by with_reducible first | exact Nm.fe _ | exact Nm.F2 _ | assumption | exact nm_one | exact nm_Z6 | (refine Nm.seg (m := 12) ?_ (by decide); assumption) | exact Nm.seg (m := 12) (Nm.F2 _) (by decide) | exact Nm.app2 (.fe _) (.fe _) | exact nm_rep | exact nm_Z12 | exact nm_two | (refine Nm.app2 ?_ nm_Z6; assumption) | exact Nm.app2 (.fe _) nm_Z6 | exact Nm.app2 nm_rep nm_one | exact ⟨rfl, words_of _ (by decide)⟩ | fail)) (by with_reducible first | rfl) ?_
    | refine take_eql_f (by rfl) (by rfl) (by rfl) (by rfl) eqok2 gd2 (Nm.len (n := 12) (by with_reducible first | exact Nm.fe _ | exact Nm.F2 _ | assumption | exact nm_one | exact nm_Z6 | (refine Nm.seg (m := 12) ?_ (by decide); assumption) | exact Nm.seg (m := 12) (Nm.F2 _) (by decide) | exact Nm.app2 (.fe _) (.fe _) | exact nm_rep | exact nm_Z12 | exact nm_two | (refine Nm.app2 ?_ nm_Z6; assumption) | exact Nm.app2 (.fe _) nm_Z6 | exact Nm.app2 nm_rep nm_one | exact ⟨rfl, words_of _ (by decide)⟩ | fail)) (Nm.len (n := 12) (by with_reducible first | exact Nm.fe _ | exact Nm.F2 _ | assumption | exact nm_one | exact nm_Z6 | (refine Nm.seg (m := 12) ?_ (by decide); assumption) | exact Nm.seg (m := 12) (Nm.F2 _) (by decide) | exact Nm.app2 (.fe _) (.fe _) | exact nm_rep | exact nm_Z12 | exact nm_two | (refine Nm.app2 ?_ nm_Z6; assumption) | exact Nm.app2 (.fe _) nm_Z6 | exact Nm.app2 nm_rep nm_one | exact ⟨rfl, words_of _ (by decide)⟩ | fail)) (by with_reducible first | assumption) ?_
    | refine take_neq_f (by rfl) (by rfl) (by rfl) (by rfl) eqok2 gd2 (Nm.len (n := 12) (by with_reducible first | exact Nm.fe _ | exact Nm.F2 _ | assumption | exact nm_one | exact nm_Z6 | (refine Nm.seg (m := 12) ?_ (by decide); assumption) | exact Nm.seg (m := 12) (Nm.F2 _) (by decide) | exact Nm.app2 (.fe _) (.fe _) | exact nm_rep | exact nm_Z12 | exact nm_two | (refine Nm.app2 ?_ nm_Z6; assumption) | exact Nm.app2 (.fe _) nm_Z6 | exact Nm.app2 nm_rep nm_one | exact ⟨rfl, words_of _ (by decide)⟩ | fail)) (Nm.len (n := 12) (by with_reducible first | exact Nm.fe _ | exact Nm.F2 _ | assumption | exact nm_one | exact nm_Z6 | (refine Nm.seg (m := 12) ?_ (by decide); assumption) | exact Nm.seg (m := 12) (Nm.F2 _) (by decide) | exact Nm.app2 (.fe _) (.fe _) | exact nm_rep | exact nm_Z12 | exact nm_two | (refine Nm.app2 ?_ nm_Z6; assumption) | exact Nm.app2 (.fe _) nm_Z6 | exact Nm.app2 nm_rep nm_one | exact ⟨rfl, words_of _ (by decide)⟩ | fail)) (by with_reducible first | assumption) ?_
    | refine take_load (by rfl) 24 (by rfl) (g := S) (n := 6) (by rfl) (t := 26) (xs := a) (fun w hw => hw.has qa3 (Nat.ne_of_lt qa3.lt)) Tryd.underlying24 rfl (by kernel_rfl) (by rw [ha.len]; decide) ?_
    | refine take_loadw (by rfl) 26 (by rfl) (g := S) (n := 12) (by rfl) (t := 26) (xs := a) (fun w hw => hw.has qa3 (Nat.ne_of_lt qa3.lt)) Tryd.underlying26 rfl (by kernel_rfl) ha.len ?_
    | refine take_load (by rfl) 24 (by rfl) (g := w2.heap.size) (n := 6) (by rfl) (t := 26) (xs := Y) (fun w hw => hw.has qx3 (Nat.ne_of_lt qx3.lt)) Tryd.underlying24 rfl (by kernel_rfl) (by rw [LY.out]; decide) ?_
    | refine take_loadw (by rfl) 26 (by rfl) (g := w2.heap.size) (n := 12) (by rfl) (t := 26) (xs := Y) (fun w hw => hw.has qx3 (Nat.ne_of_lt qx3.lt)) Tryd.underlying26 rfl (by kernel_rfl) LY.out ?_
    | refine wpTake_cons (.inl ⟨by rfl, fun w hw => (by unfold Oper.quietAt; go_simp; (first | with_reducible refine P2.out _ (HD.out _ (hb3.trans (hw.below (HSS.out _ hb3) (HSS.out _ hb3)))) | with_reducible refine P3.out _ (HD.out _ (hb3.trans (hw.below (HSS.out _ hb3) (HSS.out _ hb3)))) | with_reducible refine P4.out _ (HG.out _ (hb3.trans (hw.below (HSS.out _ hb3) (HSS.out _ hb3)))) | with_reducible refine P5.out _ (HD.out _ (hb3.trans (hw.below (HSS.out _ hb3) (HSS.out _ hb3)))) | with_reducible refine P6.out _ (HD.out _ (hb3.trans (hw.below (HSS.out _ hb3) (HSS.out _ hb3)))) | with_reducible refine P7.out _ (HD.out _ (hb3.trans (hw.below (HSS.out _ hb3) (HSS.out _ hb3))))) <;> (with_reducible first | exact Nm.fe _ | exact Nm.F2 _ | assumption | exact nm_one | exact nm_Z6 | (refine Nm.seg (m := 12) ?_ (by decide); assumption) | exact Nm.seg (m := 12) (Nm.F2 _) (by decide) | exact Nm.app2 (.fe _) (.fe _) | exact nm_rep | exact nm_Z12 | exact nm_two | (refine Nm.app2 ?_ nm_Z6; assumption) | exact Nm.app2 (.fe _) nm_Z6 | exact Nm.app2 nm_rep nm_one | exact ⟨rfl, words_of _ (by decide)⟩ | fail))⟩) ?_
    | refine take_skip (by rfl) ?_
    | refine wpTake_cons (Steady.of_yields (Or.inl ⟨by rfl, fun w => (by first | (go_simp; done) | (go_simp; with_reducible rfl))⟩)) ?_); simp only [List.getElem_toArray, List.getElem_cons_zero, List.getElem_cons_succ, Act.put, List.setIfInBounds_toArray, List.set_cons_zero, List.set_cons_succ])
  refine wpTake_nil ?_
  refine wpAnyU_end (by kernel_rfl) (fun w4 hq0 => ?_)
  have hq := (drawn_below w3).trans hq0
  have qa4 := qa3.keep hq
  have qx4 := qx3.keep hq
  have hb4 := hb3.trans (hq.mono (HSS.out _ hb3))
  clear hq0 hq hb3 qa3 qx3
  go_wp2
  go_ret
  exact ⟨rfl, hb4⟩

set_option maxRecDepth 100000 in
set_option maxHeartbeats 4000000 in
theorem sides_1false (a : List Int) (ha : Nm 12 a) (w : World) (hG : GlobD w) (hz : ¬ Z2 (v2 a)) (h1 : sg2 (v2 a) = 1) (h2 : big2 (v2 a) = false) : Calls Tryd.prog 7 #[.agg (vals .u64 a)] w fun e w' => e = .returned (.bool true) ∧ Below w.heap.size w w' := by
  obtain ⟨Y, hY⟩ : ∃ o, F2 (v2 a) = o := ⟨_, rfl⟩
  have nY : Nm 12 Y := hY ▸ .F2 _
  have LY : Keep (Y.length = 12) := ⟨nY.len⟩
  have hy : Fp2.E2 (v2 Y) (v2 a) := by rw [← hY]; exact v2_F2 _
  have P1 : Keep (∀ x : World, Glob x → Calls Tryd.prog 17 #[.agg (vals .u64 a)] x fun e x' => e = .returned (.agg (vals .u64 Y)) ∧ Below x.heap.size x x') := ⟨fun x hG => by
    have h9 := lRed2 a ha x hG
    rwa [hY] at h9⟩
  obtain ⟨N, hN⟩ : ∃ o, F2 (gn (v2 a)) = o := ⟨_, rfl⟩
  have nN : Nm 12 N := hN ▸ .F2 _
  have LN : Keep (N.length = 12) := ⟨nN.len⟩
  have hn : Fp2.E2 (v2 N) (gn (v2 a)) := by rw [← hN]; exact v2_F2 _
  have P2 : Keep (∀ x : World, GlobD x → Calls Tryd.prog 12 #[.agg (vals .u64 a)] x fun e x' => e = .returned (.int .i64 1) ∧ Below x.heap.size x x') := ⟨fun x hG => by
    have h9 := lSg a ha x hG
    rwa [h1] at h9⟩
  have P3 : Keep (∀ x : World, GlobD x → Calls Tryd.prog 14 #[.agg (vals .u64 a)] x fun e x' => e = .returned (.bool false) ∧ Below x.heap.size x x') := ⟨fun x hG => by
    have h9 := lBg a ha x hG
    rwa [h2] at h9⟩
  have P4 : Keep (∀ x : World, Glob x → Calls Tryd.prog 18 #[.agg (vals .u64 a)] x fun e x' => e = .returned (.agg (vals .u64 N)) ∧ Below x.heap.size x x') := ⟨fun x hG => by
    have h9 := lNeg2 a ha x hG
    rwa [hN] at h9⟩
  have P5 : Keep (∀ x : World, GlobD x → Calls Tryd.prog 12 #[.agg (vals .u64 N)] x fun e x' => e = .returned (.int .i64 0) ∧ Below x.heap.size x x') := ⟨fun x hG => by
    have h9 := lSg N nN x hG
    rwa [sg2_congr hn, sg2_neg hz, h1] at h9⟩
  have P6 : Keep (∀ x : World, GlobD x → Calls Tryd.prog 14 #[.agg (vals .u64 N)] x fun e x' => e = .returned (.bool true) ∧ Below x.heap.size x x') := ⟨fun x hG => by
    have h9 := lBg N nN x hG
    rwa [big2_congr hn, big2_neg hz, h2] at h9⟩
  have P7 : Keep (∀ x : World, GlobD x → Calls Tryd.prog 12 #[.agg (vals .u64 Y)] x fun e x' => e = .returned (.int .i64 1) ∧ Below x.heap.size x x') := ⟨fun x hG => by
    have h9 := lSg Y nY x hG
    rwa [sg2_congr hy, h1] at h9⟩
  have hE : Keep (Y ≠ [0, 0, 0, 0, 0, 0, 0, 0, 0, 0, 0, 0]) := ⟨by rw [← hY]; exact fun h0 => hz ((F2_zero _).1 h0)⟩
  have E1 := neq12 (m := [0, 0, 0, 0, 0, 0, 0, 0, 0, 0, 0, 0]) nY.len rfl hE.out
  have hgd := gd2
  obtain ⟨S, hS⟩ : ∃ S, w.heap.size = S := ⟨_, rfl⟩
  have qa0 : Has (w.alloc (.cells (vals .u64 a) 26)) (S) 26 (vals .u64 a) := (Has.new' _ hS.symm _ _)
  have hb0 : Below S w (w.alloc (.cells (vals .u64 a) 26)) := by rw [← hS]; exact ((Below.refl _ _).alloc (Nat.le_refl _) _)
  have hsz0 : (w.alloc (.cells (vals .u64 a) 26)).heap.size = S + 1 := by simp only [World.size_alloc, hS]
  have HSS : Keep (∀ x : World, Below S w x → S ≤ x.heap.size) := ⟨fun x hb => Nat.le_trans (by omega) hb.size⟩
  have HD : Keep (∀ x : World, Below S w x → GlobD x) := ⟨fun x hb => hG.keep (by rw [hS]; exact hb)⟩
  have HG : Keep (∀ x : World, Below S w x → Glob x) := ⟨fun x hb => (HD.out x hb).toGlob⟩
  clear hG
  clear hz hY hy hN hn h1 h2
  rw [hS]
  go_enter Tryd.func7, Tryd.ntmps7
  go_wp2_with (first
    | (refine wpList_buildTo (by rfl) 26 #[] (by rfl) (some 9) (by rfl) (vals .u64 [0, 0, 0, 0, 0, 0, 0, 0, 0, 0, 0, 0]) (by kernel_rfl) ?_)
    | (refine wpList_load_row rfl 26 (.tmp 4) rfl (w2.heap.size) rfl _ _ _ _ qx3.eq Tryd.underlying26 rfl (by rw [vals_size, LY.out]; kernel_rfl) ?_)
    | (refine store_abs2 (by rfl) 26 (.tmp 4) (.tmp 7) (by rfl) (by rfl) (w2.heap.size) (vals .u64 Y) (by rfl) (by rfl) 26 (vals .u64 Fp2.Z12) (Has.new' _ rfl _ _) (by rw [vals_size, LY.out]; kernel_rfl) (by first | (rw [vals_size, vals_size, LY.out]; rfl) | rfl) vals_one ?_
       intro w3 qx3 hkeep hbg
       have hbe := ((Below.refl w2.heap.size w2).alloc (Nat.le_refl _) (.cells (vals .u64 Fp2.Z12) 26)).trans hbg
       have Nax := qa2.lt
       have qa3 := qa2.keep hbe
       have Mx : S ≤ w2.heap.size := HSS.out _ hb2
       have hb3 := hb2.trans (hbe.mono (HSS.out _ hb2))
       clear hkeep hbg hbe hb2 qa2)
    | (have hq0 := hb1
       clear hq0
       go_at_call 17
       refine (P1.out _ (HG.out _ hb1)).mono ?_
       rintro e w2 ⟨rfl, hq⟩
       have qa2 := qa1.keep hq
       have hb2 := hb1.trans (hq.mono (HSS.out _ hb1))
       clear hq hb1 qa1)
    | (refine wpList_load_row rfl 26 (.tmp 1) rfl (S) rfl _ _ _ _ qa1.eq Tryd.underlying26 rfl (by rw [vals_size, ha.len]; kernel_rfl) ?_)
    | (have hq0 := hb0
       clear hq0
       go_at_call 8
       refine (awake_c _ (HD.out _ hb0)).mono ?_
       rintro e w1 ⟨rfl, hq⟩
       have qa1 := qa0.keep hq
       have hb1 := hb0.trans (hq.mono (HSS.out _ hb0))
       clear hq hb0 qa0))
  refine wp_reads 26 0 w3.heap.size (by kernel_rfl) (by kernel_rfl) (by rfl) (by kernel_rfl) (fun _ _ d _ _ h => by cases d <;> exact h) ?_
  simp only [List.take_succ_cons, List.take_zero]
  repeat ((first
    | refine take_eql_t (by rfl) (by rfl) (by rfl) (by rfl) eqok2 gd2 (Nm.len (n := 12) (by with_reducible first | exact Nm.fe _ | exact Nm.F2 _ | assumption | exact nm_one | exact nm_Z6 | (refine Nm.seg (m := 12) ?_ (by decide); assumption) | exact Nm.seg (m := 12) (Nm.F2 _) (by decide) | exact Nm.app2 (.fe _) (.fe _) | exact nm_rep | exact nm_Z12 | exact nm_two | (refine Nm.app2 ?_ nm_Z6; assumption) | exact Nm.app2 (.fe _) nm_Z6 | exact Nm.app2 nm_rep nm_one | exact ⟨rfl, words_of _ (by decide)⟩ | fail)) (Nm.len (n := 12) (by with_reducible first | exact Nm.fe _ | exact Nm.F2 _ | assumption | exact nm_one | exact nm_Z6 | (refine Nm.seg (m := 12) ?_ (by decide); assumption) | exact Nm.seg (m := 12) (Nm.F2 _) (by decide) | exact Nm.app2 (.fe _) (.fe _) | exact nm_rep | exact nm_Z12 | exact nm_two | (refine Nm.app2 ?_ nm_Z6; assumption) | exact Nm.app2 (.fe _) nm_Z6 | exact Nm.app2 nm_rep nm_one | exact ⟨rfl, words_of _ (by decide)⟩ | fail)) (by with_reducible first | rfl) ?_
    | refine take_neq_t (by rfl) (by rfl) (by rfl) (by rfl) eqok2 gd2 (Nm.len (n := 12) (by with_reducible first | exact Nm.fe _ | exact Nm.F2 _ | assumption | exact nm_one | exact nm_Z6 | (refine Nm.seg (m := 12) ?_ (by decide); assumption) | exact Nm.seg (m := 12) (Nm.F2 _) (by decide) | exact Nm.app2 (.fe _) (.fe _) | exact nm_rep | exact nm_Z12 | exact nm_two | (refine Nm.app2 ?_ nm_Z6; assumption) | exact Nm.app2 (.fe _) nm_Z6 | exact Nm.app2 nm_rep nm_one | exact ⟨rfl, words_of _ (by decide)⟩ | fail)) (Nm.len (n := 12) (by with_reducible first | exact Nm.fe _ | exact Nm.F2 _ | assumption | exact nm_one | exact nm_Z6 | (refine Nm.seg (m := 12) ?_ (by decide); assumption) | exact Nm.seg (m := 12) (Nm.F2 _) (by decide) | exact Nm.app2 (.fe _) (.fe _) | exact nm_rep | exact nm_Z12 | exact nm_two | (refine Nm.app2 ?_ nm_Z6; assumption) | exact Nm.app2 (.fe _) nm_Z6 | exact Nm.app2 nm_rep nm_one | exact ⟨rfl, words_of _ (by decide)⟩ | fail)) (by with_reducible first | rfl) ?_
    | refine take_eql_f (by rfl) (by rfl) (by rfl) (by rfl) eqok2 gd2 (Nm.len (n := 12) (by with_reducible first | exact Nm.fe _ | exact Nm.F2 _ | assumption | exact nm_one | exact nm_Z6 | (refine Nm.seg (m := 12) ?_ (by decide); assumption) | exact Nm.seg (m := 12) (Nm.F2 _) (by decide) | exact Nm.app2 (.fe _) (.fe _) | exact nm_rep | exact nm_Z12 | exact nm_two | (refine Nm.app2 ?_ nm_Z6; assumption) | exact Nm.app2 (.fe _) nm_Z6 | exact Nm.app2 nm_rep nm_one | exact ⟨rfl, words_of _ (by decide)⟩ | fail)) (Nm.len (n := 12) (by with_reducible first | exact Nm.fe _ | exact Nm.F2 _ | assumption | exact nm_one | exact nm_Z6 | (refine Nm.seg (m := 12) ?_ (by decide); assumption) | exact Nm.seg (m := 12) (Nm.F2 _) (by decide) | exact Nm.app2 (.fe _) (.fe _) | exact nm_rep | exact nm_Z12 | exact nm_two | (refine Nm.app2 ?_ nm_Z6; assumption) | exact Nm.app2 (.fe _) nm_Z6 | exact Nm.app2 nm_rep nm_one | exact ⟨rfl, words_of _ (by decide)⟩ | fail)) (by with_reducible first | assumption) ?_
    | refine take_neq_f (by rfl) (by rfl) (by rfl) (by rfl) eqok2 gd2 (Nm.len (n := 12) (by with_reducible first | exact Nm.fe _ | exact Nm.F2 _ | assumption | exact nm_one | exact nm_Z6 | (refine Nm.seg (m := 12) ?_ (by decide); assumption) | exact Nm.seg (m := 12) (Nm.F2 _) (by decide) | exact Nm.app2 (.fe _) (.fe _) | exact nm_rep | exact nm_Z12 | exact nm_two | (refine Nm.app2 ?_ nm_Z6; assumption) | exact Nm.app2 (.fe _) nm_Z6 | exact Nm.app2 nm_rep nm_one | exact ⟨rfl, words_of _ (by decide)⟩ | fail)) (Nm.len (n := 12) (by with_reducible first | exact Nm.fe _ | exact Nm.F2 _ | assumption | exact nm_one | exact nm_Z6 | (refine Nm.seg (m := 12) ?_ (by decide); assumption) | exact Nm.seg (m := 12) (Nm.F2 _) (by decide) | exact Nm.app2 (.fe _) (.fe _) | exact nm_rep | exact nm_Z12 | exact nm_two | (refine Nm.app2 ?_ nm_Z6; assumption) | exact Nm.app2 (.fe _) nm_Z6 | exact Nm.app2 nm_rep nm_one | exact ⟨rfl, words_of _ (by decide)⟩ | fail)) (by with_reducible first | assumption) ?_
    | refine take_load (by rfl) 24 (by rfl) (g := S) (n := 6) (by rfl) (t := 26) (xs := a) (fun w hw => hw.has qa3 (Nat.ne_of_lt qa3.lt)) Tryd.underlying24 rfl (by kernel_rfl) (by rw [ha.len]; decide) ?_
    | refine take_loadw (by rfl) 26 (by rfl) (g := S) (n := 12) (by rfl) (t := 26) (xs := a) (fun w hw => hw.has qa3 (Nat.ne_of_lt qa3.lt)) Tryd.underlying26 rfl (by kernel_rfl) ha.len ?_
    | refine take_load (by rfl) 24 (by rfl) (g := w2.heap.size) (n := 6) (by rfl) (t := 26) (xs := Y) (fun w hw => hw.has qx3 (Nat.ne_of_lt qx3.lt)) Tryd.underlying24 rfl (by kernel_rfl) (by rw [LY.out]; decide) ?_
    | refine take_loadw (by rfl) 26 (by rfl) (g := w2.heap.size) (n := 12) (by rfl) (t := 26) (xs := Y) (fun w hw => hw.has qx3 (Nat.ne_of_lt qx3.lt)) Tryd.underlying26 rfl (by kernel_rfl) LY.out ?_
    | refine wpTake_cons (.inl ⟨by rfl, fun w hw => (by unfold Oper.quietAt; go_simp; (first | with_reducible refine P2.out _ (HD.out _ (hb3.trans (hw.below (HSS.out _ hb3) (HSS.out _ hb3)))) | with_reducible refine P3.out _ (HD.out _ (hb3.trans (hw.below (HSS.out _ hb3) (HSS.out _ hb3)))) | with_reducible refine P4.out _ (HG.out _ (hb3.trans (hw.below (HSS.out _ hb3) (HSS.out _ hb3)))) | with_reducible refine P5.out _ (HD.out _ (hb3.trans (hw.below (HSS.out _ hb3) (HSS.out _ hb3)))) | with_reducible refine P6.out _ (HD.out _ (hb3.trans (hw.below (HSS.out _ hb3) (HSS.out _ hb3)))) | with_reducible refine P7.out _ (HD.out _ (hb3.trans (hw.below (HSS.out _ hb3) (HSS.out _ hb3))))) <;> (with_reducible first | exact Nm.fe _ | exact Nm.F2 _ | assumption | exact nm_one | exact nm_Z6 | (refine Nm.seg (m := 12) ?_ (by decide); assumption) | exact Nm.seg (m := 12) (Nm.F2 _) (by decide) | exact Nm.app2 (.fe _) (.fe _) | exact nm_rep | exact nm_Z12 | exact nm_two | (refine Nm.app2 ?_ nm_Z6; assumption) | exact Nm.app2 (.fe _) nm_Z6 | exact Nm.app2 nm_rep nm_one | exact ⟨rfl, words_of _ (by decide)⟩ | fail))⟩) ?_
    | refine take_skip (by rfl) ?_
    | refine wpTake_cons (Steady.of_yields (Or.inl ⟨by rfl, fun w => (by first | (go_simp; done) | (go_simp; with_reducible rfl))⟩)) ?_); simp only [List.getElem_toArray, List.getElem_cons_zero, List.getElem_cons_succ, Act.put, List.setIfInBounds_toArray, List.set_cons_zero, List.set_cons_succ])
  refine wpTake_nil ?_
  refine wpAnyU_end (by kernel_rfl) (fun w4 hq0 => ?_)
  have hq := (drawn_below w3).trans hq0
  have qa4 := qa3.keep hq
  have qx4 := qx3.keep hq
  have hb4 := hb3.trans (hq.mono (HSS.out _ hb3))
  clear hq0 hq hb3 qa3 qx3
  go_wp2
  go_ret
  exact ⟨rfl, hb4⟩

set_option maxRecDepth 100000 in
set_option maxHeartbeats 4000000 in
theorem sides_1true (a : List Int) (ha : Nm 12 a) (w : World) (hG : GlobD w) (hz : ¬ Z2 (v2 a)) (h1 : sg2 (v2 a) = 1) (h2 : big2 (v2 a) = true) : Calls Tryd.prog 7 #[.agg (vals .u64 a)] w fun e w' => e = .returned (.bool true) ∧ Below w.heap.size w w' := by
  obtain ⟨Y, hY⟩ : ∃ o, F2 (v2 a) = o := ⟨_, rfl⟩
  have nY : Nm 12 Y := hY ▸ .F2 _
  have LY : Keep (Y.length = 12) := ⟨nY.len⟩
  have hy : Fp2.E2 (v2 Y) (v2 a) := by rw [← hY]; exact v2_F2 _
  have P1 : Keep (∀ x : World, Glob x → Calls Tryd.prog 17 #[.agg (vals .u64 a)] x fun e x' => e = .returned (.agg (vals .u64 Y)) ∧ Below x.heap.size x x') := ⟨fun x hG => by
    have h9 := lRed2 a ha x hG
    rwa [hY] at h9⟩
  obtain ⟨N, hN⟩ : ∃ o, F2 (gn (v2 a)) = o := ⟨_, rfl⟩
  have nN : Nm 12 N := hN ▸ .F2 _
  have LN : Keep (N.length = 12) := ⟨nN.len⟩
  have hn : Fp2.E2 (v2 N) (gn (v2 a)) := by rw [← hN]; exact v2_F2 _
  have P2 : Keep (∀ x : World, GlobD x → Calls Tryd.prog 12 #[.agg (vals .u64 a)] x fun e x' => e = .returned (.int .i64 1) ∧ Below x.heap.size x x') := ⟨fun x hG => by
    have h9 := lSg a ha x hG
    rwa [h1] at h9⟩
  have P3 : Keep (∀ x : World, GlobD x → Calls Tryd.prog 14 #[.agg (vals .u64 a)] x fun e x' => e = .returned (.bool true) ∧ Below x.heap.size x x') := ⟨fun x hG => by
    have h9 := lBg a ha x hG
    rwa [h2] at h9⟩
  have P4 : Keep (∀ x : World, Glob x → Calls Tryd.prog 18 #[.agg (vals .u64 a)] x fun e x' => e = .returned (.agg (vals .u64 N)) ∧ Below x.heap.size x x') := ⟨fun x hG => by
    have h9 := lNeg2 a ha x hG
    rwa [hN] at h9⟩
  have P5 : Keep (∀ x : World, GlobD x → Calls Tryd.prog 12 #[.agg (vals .u64 N)] x fun e x' => e = .returned (.int .i64 0) ∧ Below x.heap.size x x') := ⟨fun x hG => by
    have h9 := lSg N nN x hG
    rwa [sg2_congr hn, sg2_neg hz, h1] at h9⟩
  have P6 : Keep (∀ x : World, GlobD x → Calls Tryd.prog 14 #[.agg (vals .u64 N)] x fun e x' => e = .returned (.bool false) ∧ Below x.heap.size x x') := ⟨fun x hG => by
    have h9 := lBg N nN x hG
    rwa [big2_congr hn, big2_neg hz, h2] at h9⟩
  have P7 : Keep (∀ x : World, GlobD x → Calls Tryd.prog 12 #[.agg (vals .u64 Y)] x fun e x' => e = .returned (.int .i64 1) ∧ Below x.heap.size x x') := ⟨fun x hG => by
    have h9 := lSg Y nY x hG
    rwa [sg2_congr hy, h1] at h9⟩
  have hE : Keep (Y ≠ [0, 0, 0, 0, 0, 0, 0, 0, 0, 0, 0, 0]) := ⟨by rw [← hY]; exact fun h0 => hz ((F2_zero _).1 h0)⟩
  have E1 := neq12 (m := [0, 0, 0, 0, 0, 0, 0, 0, 0, 0, 0, 0]) nY.len rfl hE.out
  have hgd := gd2
  obtain ⟨S, hS⟩ : ∃ S, w.heap.size = S := ⟨_, rfl⟩
  have qa0 : Has (w.alloc (.cells (vals .u64 a) 26)) (S) 26 (vals .u64 a) := (Has.new' _ hS.symm _ _)
  have hb0 : Below S w (w.alloc (.cells (vals .u64 a) 26)) := by rw [← hS]; exact ((Below.refl _ _).alloc (Nat.le_refl _) _)
  have hsz0 : (w.alloc (.cells (vals .u64 a) 26)).heap.size = S + 1 := by simp only [World.size_alloc, hS]
  have HSS : Keep (∀ x : World, Below S w x → S ≤ x.heap.size) := ⟨fun x hb => Nat.le_trans (by omega) hb.size⟩
  have HD : Keep (∀ x : World, Below S w x → GlobD x) := ⟨fun x hb => hG.keep (by rw [hS]; exact hb)⟩
  have HG : Keep (∀ x : World, Below S w x → Glob x) := ⟨fun x hb => (HD.out x hb).toGlob⟩
  clear hG
  clear hz hY hy hN hn h1 h2
  rw [hS]
  go_enter Tryd.func7, Tryd.ntmps7
  go_wp2_with (first
    | (refine wpList_buildTo (by rfl) 26 #[] (by rfl) (some 9) (by rfl) (vals .u64 [0, 0, 0, 0, 0, 0, 0, 0, 0, 0, 0, 0]) (by kernel_rfl) ?_)
    | (refine wpList_load_row rfl 26 (.tmp 4) rfl (w2.heap.size) rfl _ _ _ _ qx3.eq Tryd.underlying26 rfl (by rw [vals_size, LY.out]; kernel_rfl) ?_)
    | (refine store_abs2 (by rfl) 26 (.tmp 4) (.tmp 7) (by rfl) (by rfl) (w2.heap.size) (vals .u64 Y) (by rfl) (by rfl) 26 (vals .u64 Fp2.Z12) (Has.new' _ rfl _ _) (by rw [vals_size, LY.out]; kernel_rfl) (by first | (rw [vals_size, vals_size, LY.out]; rfl) | rfl) vals_one ?_
       intro w3 qx3 hkeep hbg
       have hbe := ((Below.refl w2.heap.size w2).alloc (Nat.le_refl _) (.cells (vals .u64 Fp2.Z12) 26)).trans hbg
       have Nax := qa2.lt
       have qa3 := qa2.keep hbe
       have Mx : S ≤ w2.heap.size := HSS.out _ hb2
       have hb3 := hb2.trans (hbe.mono (HSS.out _ hb2))
       clear hkeep hbg hbe hb2 qa2)
    | (have hq0 := hb1
       clear hq0
       go_at_call 17
       refine (P1.out _ (HG.out _ hb1)).mono ?_
       rintro e w2 ⟨rfl, hq⟩
       have qa2 := qa1.keep hq
       have hb2 := hb1.trans (hq.mono (HSS.out _ hb1))
       clear hq hb1 qa1)
    | (refine wpList_load_row rfl 26 (.tmp 1) rfl (S) rfl _ _ _ _ qa1.eq Tryd.underlying26 rfl (by rw [vals_size, ha.len]; kernel_rfl) ?_)
    | (have hq0 := hb0
       clear hq0
       go_at_call 8
       refine (awake_c _ (HD.out _ hb0)).mono ?_
       rintro e w1 ⟨rfl, hq⟩
       have qa1 := qa0.keep hq
       have hb1 := hb0.trans (hq.mono (HSS.out _ hb0))
       clear hq hb0 qa0))
  refine wp_reads 26 0 w3.heap.size (by kernel_rfl) (by kernel_rfl) (by rfl) (by kernel_rfl) (fun _ _ d _ _ h => by cases d <;> exact h) ?_
  simp only [List.take_succ_cons, List.take_zero]
  repeat ((first
    | refine take_eql_t (by rfl) (by rfl) (by rfl) (by rfl) eqok2 gd2 (Nm.len (n := 12) (by with_reducible first | exact Nm.fe _ | exact Nm.F2 _ | assumption | exact nm_one | exact nm_Z6 | (refine Nm.seg (m := 12) ?_ (by decide); assumption) | exact Nm.seg (m := 12) (Nm.F2 _) (by decide) | exact Nm.app2 (.fe _) (.fe _) | exact nm_rep | exact nm_Z12 | exact nm_two | (refine Nm.app2 ?_ nm_Z6; assumption) | exact Nm.app2 (.fe _) nm_Z6 | exact Nm.app2 nm_rep nm_one | exact ⟨rfl, words_of _ (by decide)⟩ | fail)) (Nm.len (n := 12) (by with_reducible first | exact Nm.fe _ | exact Nm.F2 _ | assumption | exact nm_one | exact nm_Z6 | (refine Nm.seg (m := 12) ?_ (by decide); assumption) | exact Nm.seg (m := 12) (Nm.F2 _) (by decide) | exact Nm.app2 (.fe _) (.fe _) | exact nm_rep | exact nm_Z12 | exact nm_two | (refine Nm.app2 ?_ nm_Z6; assumption) | exact Nm.app2 (.fe _) nm_Z6 | exact Nm.app2 nm_rep nm_one | exact ⟨rfl, words_of _ (by decide)⟩ | fail)) (by with_reducible first | rfl) ?_
    | refine take_neq_t (by rfl) (by rfl) (by rfl) (by rfl) eqok2 gd2 (Nm.len (n := 12) (by with_reducible first | exact Nm.fe _ | exact Nm.F2 _ | assumption | exact nm_one | exact nm_Z6 | (refine Nm.seg (m := 12) ?_ (by decide); assumption) | exact Nm.seg (m := 12) (Nm.F2 _) (by decide) | exact Nm.app2 (.fe _) (.fe _) | exact nm_rep | exact nm_Z12 | exact nm_two | (refine Nm.app2 ?_ nm_Z6; assumption) | exact Nm.app2 (.fe _) nm_Z6 | exact Nm.app2 nm_rep nm_one | exact ⟨rfl, words_of _ (by decide)⟩ | fail)) (Nm.len (n := 12) (by with_reducible first | exact Nm.fe _ | exact Nm.F2 _ | assumption | exact nm_one | exact nm_Z6 | (refine Nm.seg (m := 12) ?_ (by decide); assumption) | exact Nm.seg (m := 12) (Nm.F2 _) (by decide) | exact Nm.app2 (.fe _) (.fe _) | exact nm_rep | exact nm_Z12 | exact nm_two | (refine Nm.app2 ?_ nm_Z6; assumption) | exact Nm.app2 (.fe _) nm_Z6 | exact Nm.app2 nm_rep nm_one | exact ⟨rfl, words_of _ (by decide)⟩ | fail)) (by with_reducible first | rfl) ?_
    | refine take_eql_f (by rfl) (by rfl) (by rfl) (by rfl) eqok2 gd2 (Nm.len (n := 12) (by with_reducible first | exact Nm.fe _ | exact Nm.F2 _ | assumption | exact nm_one | exact nm_Z6 | (refine Nm.seg (m := 12) ?_ (by decide); assumption) | exact Nm.seg (m := 12) (Nm.F2 _) (by decide) | exact Nm.app2 (.fe _) (.fe _) | exact nm_rep | exact nm_Z12 | exact nm_two | (refine Nm.app2 ?_ nm_Z6; assumption) | exact Nm.app2 (.fe _) nm_Z6 | exact Nm.app2 nm_rep nm_one | exact ⟨rfl, words_of _ (by decide)⟩ | fail)) (Nm.len (n := 12) (by with_reducible first | exact Nm.fe _ | exact Nm.F2 _ | assumption | exact nm_one | exact nm_Z6 | (refine Nm.seg (m := 12) ?_ (by decide); assumption) | exact Nm.seg (m := 12) (Nm.F2 _) (by decide) | exact Nm.app2 (.fe _) (.fe _) | exact nm_rep | exact nm_Z12 | exact nm_two | (refine Nm.app2 ?_ nm_Z6; assumption) | exact Nm.app2 (.fe _) nm_Z6 | exact Nm.app2 nm_rep nm_one | exact ⟨rfl, words_of _ (by decide)⟩ | fail)) (by with_reducible first | assumption) ?_
    | refine take_neq_f (by rfl) (by rfl) (by rfl) (by rfl) eqok2 gd2 (Nm.len (n := 12) (by with_reducible first | exact Nm.fe _ | exact Nm.F2 _ | assumption | exact nm_one | exact nm_Z6 | (refine Nm.seg (m := 12) ?_ (by decide); assumption) | exact Nm.seg (m := 12) (Nm.F2 _) (by decide) | exact Nm.app2 (.fe _) (.fe _) | exact nm_rep | exact nm_Z12 | exact nm_two | (refine Nm.app2 ?_ nm_Z6; assumption) | exact Nm.app2 (.fe _) nm_Z6 | exact Nm.app2 nm_rep nm_one | exact ⟨rfl, words_of _ (by decide)⟩ | fail)) (Nm.len (n := 12) (by with_reducible first | exact Nm.fe _ | exact Nm.F2 _ | assumption | exact nm_one | exact nm_Z6 | (refine Nm.seg (m := 12) ?_ (by decide); assumption) | exact Nm.seg (m := 12) (Nm.F2 _) (by decide) | exact Nm.app2 (.fe _) (.fe _) | exact nm_rep | exact nm_Z12 | exact nm_two | (refine Nm.app2 ?_ nm_Z6; assumption) | exact Nm.app2 (.fe _) nm_Z6 | exact Nm.app2 nm_rep nm_one | exact ⟨rfl, words_of _ (by decide)⟩ | fail)) (by with_reducible first | assumption) ?_
    | refine take_load (by rfl) 24 (by rfl) (g := S) (n := 6) (by rfl) (t := 26) (xs := a) (fun w hw => hw.has qa3 (Nat.ne_of_lt qa3.lt)) Tryd.underlying24 rfl (by kernel_rfl) (by rw [ha.len]; decide) ?_
    | refine take_loadw (by rfl) 26 (by rfl) (g := S) (n := 12) (by rfl) (t := 26) (xs := a) (fun w hw => hw.has qa3 (Nat.ne_of_lt qa3.lt)) Tryd.underlying26 rfl (by kernel_rfl) ha.len ?_
    | refine take_load (by rfl) 24 (by rfl) (g := w2.heap.size) (n := 6) (by rfl) (t := 26) (xs := Y) (fun w hw => hw.has qx3 (Nat.ne_of_lt qx3.lt)) Tryd.underlying24 rfl (by kernel_rfl) (by rw [LY.out]; decide) ?_
    | refine take_loadw (by rfl) 26 (by rfl) (g := w2.heap.size) (n := 12) (by rfl) (t := 26) (xs := Y) (fun w hw => hw.has qx3 (Nat.ne_of_lt qx3.lt)) Tryd.underlying26 rfl (by kernel_rfl) LY.out ?_
    | refine wpTake_cons (.inl ⟨by rfl, fun w hw => (by unfold Oper.quietAt; go_simp; (first | with_reducible refine P2.out _ (HD.out _ (hb3.trans (hw.below (HSS.out _ hb3) (HSS.out _ hb3)))) | with_reducible refine P3.out _ (HD.out _ (hb3.trans (hw.below (HSS.out _ hb3) (HSS.out _ hb3)))) | with_reducible refine P4.out _ (HG.out _ (hb3.trans (hw.below (HSS.out _ hb3) (HSS.out _ hb3)))) | with_reducible refine P5.out _ (HD.out _ (hb3.trans (hw.below (HSS.out _ hb3) (HSS.out _ hb3)))) | with_reducible refine P6.out _ (HD.out _ (hb3.trans (hw.below (HSS.out _ hb3) (HSS.out _ hb3)))) | with_reducible refine P7.out _ (HD.out _ (hb3.trans (hw.below (HSS.out _ hb3) (HSS.out _ hb3))))) <;> (with_reducible first | exact Nm.fe _ | exact Nm.F2 _ | assumption | exact nm_one | exact nm_Z6 | (refine Nm.seg (m := 12) ?_ (by decide); assumption) | exact Nm.seg (m := 12) (Nm.F2 _) (by decide) | exact Nm.app2 (.fe _) (.fe _) | exact nm_rep | exact nm_Z12 | exact nm_two | (refine Nm.app2 ?_ nm_Z6; assumption) | exact Nm.app2 (.fe _) nm_Z6 | exact Nm.app2 nm_rep nm_one | exact ⟨rfl, words_of _ (by decide)⟩ | fail))⟩) ?_
    | refine take_skip (by rfl) ?_
    | refine wpTake_cons (Steady.of_yields (Or.inl ⟨by rfl, fun w => (by first | (go_simp; done) | (go_simp; with_reducible rfl))⟩)) ?_); simp only [List.getElem_toArray, List.getElem_cons_zero, List.getElem_cons_succ, Act.put, List.setIfInBounds_toArray, List.set_cons_zero, List.set_cons_succ])
  refine wpTake_nil ?_
  refine wpAnyU_end (by kernel_rfl) (fun w4 hq0 => ?_)
  have hq := (drawn_below w3).trans hq0
  have qa4 := qa3.keep hq
  have qx4 := qx3.keep hq
  have hb4 := hb3.trans (hq.mono (HSS.out _ hb3))
  clear hq0 hq hb3 qa3 qx3
  go_wp2
  go_ret
  exact ⟨rfl, hb4⟩

set_option maxRecDepth 100000 in
set_option maxHeartbeats 4000000 in
theorem sides_w (a : List Int) (ha : Nm 12 a) (w : World) (hG : GlobD w) : Calls Tryd.prog 7 #[.agg (vals .u64 a)] w fun e w' => e = .returned (.bool true) ∧ Below w.heap.size w w' := by
  by_cases hz : Z2 (v2 a)
  · exact sides_zero a ha w hG hz
  · rcases sg2_or (v2 a) with h1 | h1 <;> cases h2 : big2 (v2 a)
    · exact sides_0false a ha w hG hz h1 h2
    · exact sides_0true a ha w hG hz h1 h2
    · exact sides_1false a ha w hG hz h1 h2
    · exact sides_1true a ha w hG hz h1 h2

end Go.Proofs.YtoogmgckbalboaaDoor.Fp2r
