/-
  Own text. The walks of layer 8's statements: norms, products.
-/
import Derived.Test.YtoogmgckbalboaaDoorFp2rAwake
import Derived.Test.YtoogmgckbalboaaDoorMW
namespace Go.Proofs.YtoogmgckbalboaaDoor.Fp2r
set_option linter.unusedVariables false
set_option linter.unusedSimpArgs false
open Go Go.RowKit Go.Proofs.YtoogmgckbalboaaDoor.Reg Go.Proofs.YtoogmgckbalboaaDoor.Base Go.Proofs.YtoogmgckbalboaaDoor.Limb Go.Proofs.YtoogmgckbalboaaDoor.Fp Go.Proofs.YtoogmgckbalboaaDoor.Fpr Go.Proofs.YtoogmgckbalboaaDoor.Fp2

set_option maxRecDepth 100000 in
set_option maxHeartbeats 4000000 in
theorem norms_zero (a : List Int) (ha : Nm 12 a) (w : World) (hG : GlobD w) (hz : Z2 (v2 a)) : Calls Tryd.prog 5 #[.agg (vals .u64 a)] w fun e w' => e = .returned (.bool true) ∧ Below w.heap.size w w' := by
  obtain ⟨n, hn⟩ : ∃ o, (Fp.fe (num (Fp.fe (num (seg 0 6 a) * num (seg 0 6 a))) + num (Fp.fe (num (seg 6 6 a) * num (seg 6 6 a))))) = o := ⟨_, rfl⟩
  have nn : Nm 6 n := hn ▸ .fe _
  have Ln : Keep (n.length = 6) := ⟨nn.len⟩
  have HN : Keep ((Fp.fe (num (Fp.fe (num (seg 0 6 a) * num (seg 0 6 a))) + num (Fp.fe (num (seg 6 6 a) * num (seg 6 6 a))))) = n) := ⟨hn⟩
  obtain ⟨Q, hQ⟩ : ∃ o, F2 (gm (v2 a) (v2 a)) = o := ⟨_, rfl⟩
  have nQ : Nm 12 Q := hQ ▸ .F2 _
  have LQ : Keep (Q.length = 12) := ⟨nQ.len⟩
  obtain ⟨X, hX⟩ : ∃ o, F2 (gm (v2 Q) (1, 1)) = o := ⟨_, rfl⟩
  have nX : Nm 12 X := hX ▸ .F2 _
  have LX : Keep (X.length = 12) := ⟨nX.len⟩
  obtain ⟨Y, hY⟩ : ∃ o, F2 (v2 a) = o := ⟨_, rfl⟩
  have nY : Nm 12 Y := hY ▸ .F2 _
  have LY : Keep (Y.length = 12) := ⟨nY.len⟩
  obtain ⟨k, hk⟩ : ∃ k, gsq (v2 a) = k := ⟨_, rfl⟩
  have nb : Nm 6 (seg 0 6 a) := ha.seg (by decide)
  obtain ⟨b, hb⟩ : ∃ b, seg 0 6 a ++ Z6 = b := ⟨_, rfl⟩
  have nB : Nm 12 b := hb ▸ nb.app2 nm_Z6
  have hq : Fp2.E2 (gm (v2 a) (v2 a)) (v2 Q) := by rw [← hQ]; exact (v2_F2 _).symm
  have hxi : gsq (v2 X) = true := by
    rw [← hX, gsq_congr (v2_F2 _), gsq_xi (gsq_of hq)]
    exact decide_eq_true ((F2_zero _).2 (Z2.congr hq (gm_zl hz)))
  have P1 : Keep (∀ x : World, Glob x → Calls Tryd.prog 16 #[.agg (vals .u64 a), .agg (vals .u64 a)] x fun e x' => e = .returned (.agg (vals .u64 Q)) ∧ Below x.heap.size x x') := ⟨fun x hG => by
    have h9 := lMul2 a ha a ha x hG
    rwa [hQ] at h9⟩
  have P2 : Keep (∀ x : World, Glob x → Calls Tryd.prog 17 #[.agg (vals .u64 a)] x fun e x' => e = .returned (.agg (vals .u64 Y)) ∧ Below x.heap.size x x') := ⟨fun x hG => by
    have h9 := lRed2 a ha x hG
    rwa [hY] at h9⟩
  have P3 : Keep (∀ x : World, GlobD x → Calls Tryd.prog 11 #[.agg (vals .u64 a)] x fun e x' => e = .returned (.bool k) ∧ Below x.heap.size x x') := ⟨fun x hG => by
    have h9 := lIs a ha x hG
    rwa [hk] at h9⟩
  have P4 : Keep (∀ x : World, Glob x → Calls Tryd.prog 21 #[.agg (vals .u64 n)] x fun e x' => e = .returned (.bool k) ∧ Below x.heap.size x x') := ⟨fun x hG => by
    have h9 := Fpr.is_c n nn.len nn.words x hG
    rwa [← hn, nrm_eq, sq_fe, ← nrm_eq, hn, show sq (gnorm (v2 a)) = k from hk] at h9⟩
  have P5 : Keep (∀ x : World, GlobD x → Calls Tryd.prog 11 #[.agg (vals .u64 b)] x fun e x' => e = .returned (.bool true) ∧ Below x.heap.size x x') := ⟨fun x hG => by
    have h9 := lIs b nB x hG
    rw [← hb, v2_app nb nm_Z6, show num Z6 = 0 from by decide, gsq_real, hb] at h9
    exact h9⟩
  have P6 : Keep (∀ x : World, Glob x → Calls Tryd.prog 22 #[.agg (vals .u64 Q)] x fun e x' => e = .returned (.agg (vals .u64 X)) ∧ Below x.heap.size x x') := ⟨fun x hG => by
    have h9 := lXi2 Q nQ x hG
    rwa [hX] at h9⟩
  have P7 : Keep (∀ x : World, GlobD x → Calls Tryd.prog 11 #[.agg (vals .u64 X)] x fun e x' => e = .returned (.bool true) ∧ Below x.heap.size x x') := ⟨fun x hG => by
    have h9 := lIs X nX x hG
    rwa [hxi] at h9⟩
  have hE : Keep (Y = [0, 0, 0, 0, 0, 0, 0, 0, 0, 0, 0, 0]) := ⟨by rw [← hY]; exact (F2_zero _).2 hz⟩
  have E1 : ∀ w : World, (Op.equalIn 10000 26 (.agg (vals .u64 Y)) (.agg (vals .u64 [0, 0, 0, 0, 0, 0, 0, 0, 0, 0, 0, 0]))).run Tryd.prog w = .ok true w := fun w => by rw [eqok2 w Y [0, 0, 0, 0, 0, 0, 0, 0, 0, 0, 0, 0] nY.len rfl, decide_eq_true hE.out]
  have hgd := gd2
  obtain ⟨S, hS⟩ : ∃ S, w.heap.size = S := ⟨_, rfl⟩
  have qa0 : Has (w.alloc (.cells (vals .u64 a) 26)) (S) 26 (vals .u64 a) := (Has.new' _ hS.symm _ _)
  have hb0 : Below S w (w.alloc (.cells (vals .u64 a) 26)) := by rw [← hS]; exact ((Below.refl _ _).alloc (Nat.le_refl _) _)
  have hsz0 : (w.alloc (.cells (vals .u64 a) 26)).heap.size = S + 1 := by simp only [World.size_alloc, hS]
  have HSS : Keep (∀ x : World, Below S w x → S ≤ x.heap.size) := ⟨fun x hb => Nat.le_trans (by omega) hb.size⟩
  have HD : Keep (∀ x : World, Below S w x → GlobD x) := ⟨fun x hb => hG.keep (by rw [hS]; exact hb)⟩
  have HG : Keep (∀ x : World, Below S w x → Glob x) := ⟨fun x hb => (HD.out x hb).toGlob⟩
  clear hG
  clear hz hn hQ hX hY hk hq hxi
  rw [hS]
  go_enter Tryd.func5, Tryd.ntmps5
  go_wp2_with (first
    | (have hq0 := hb0
       clear hq0
       go_at_call 8
       refine (awake_c _ (HD.out _ hb0)).mono ?_
       rintro e w1 ⟨rfl, hq⟩
       have qa1 := qa0.keep hq
       have hb1 := hb0.trans (hq.mono (HSS.out _ hb0))
       clear hq hb0 qa0))
  refine wp_reads 11 2 w1.heap.size (by kernel_rfl) (by kernel_rfl) (by rfl) (by kernel_rfl) (fun _ _ d _ _ h => by cases d <;> exact h) ?_
  simp only [List.take_succ_cons, List.take_zero]
  repeat ((first
    | refine take_load (by rfl) 24 (by rfl) (g := S) (n := 6) (by rfl) (t := 26) (xs := a) (fun w hw => hw.has qa1 (Nat.ne_of_lt qa1.lt)) Tryd.underlying24 rfl (by kernel_rfl) (by rw [ha.len]; decide) ?_
    | refine take_loadw (by rfl) 26 (by rfl) (g := S) (n := 12) (by rfl) (t := 26) (xs := a) (fun w hw => hw.has qa1 (Nat.ne_of_lt qa1.lt)) Tryd.underlying26 rfl (by kernel_rfl) ha.len ?_
    | refine wpTake_cons (.inl ⟨by rfl, fun w hw => (by unfold Oper.quietAt; go_simp; (first | with_reducible refine pAdd ?_ ?_ _ (HG.out _ (hb1.trans (hw.below (HSS.out _ hb1) (HSS.out _ hb1)))) | with_reducible refine pMul ?_ ?_ _ (HG.out _ (hb1.trans (hw.below (HSS.out _ hb1) (HSS.out _ hb1))))) <;> (with_reducible first | exact Nm.fe _ | exact Nm.F2 _ | assumption | exact nm_one | exact nm_Z6 | (refine Nm.seg (m := 12) ?_ (by decide); assumption) | exact Nm.seg (m := 12) (Nm.F2 _) (by decide) | exact Nm.app2 (.fe _) (.fe _) | exact nm_rep | exact nm_Z12 | exact nm_two | (refine Nm.app2 ?_ nm_Z6; assumption) | exact Nm.app2 (.fe _) nm_Z6 | exact Nm.app2 nm_rep nm_one | exact ⟨rfl, words_of _ (by decide)⟩ | fail))⟩) ?_
    | refine wpTake_cons (Steady.of_yields (Or.inl ⟨by rfl, fun w => (by first | (go_simp; done) | (go_simp; with_reducible rfl))⟩)) ?_); simp only [List.getElem_toArray, List.getElem_cons_zero, List.getElem_cons_succ, Act.put, List.setIfInBounds_toArray, List.set_cons_zero, List.set_cons_succ])
  refine wpTake_nil ?_
  refine tail_new (i := 11) (j := 12) (by rfl) (by rfl) (by kernel_rfl) (by kernel_rfl) (by kernel_rfl) (by rfl) 24 4 (by rfl) (by rfl) (by rfl) (.tmp 4) (.tmp 18) (by rfl) (by rfl) _ (vals .u64 Z6) (fun _ => by rfl) (fun _ => by rfl) (by exact ⟨_, _, rfl, rfl, by kernel_rfl⟩) (by rw [vals_size, (Nm.fe _).len]; kernel_rfl) (by rw [vals_size, vals_size, (Nm.fe _).len]; rfl) vals_one ?_
  intro w2 gz hgz qz2 hbt
  simp only [List.getElem_toArray, List.getElem_cons_zero, List.getElem_cons_succ, Act.put, List.setIfInBounds_toArray, List.set_cons_zero, List.set_cons_succ]
  have qa2 := qa1.keep hbt
  have Naz := Nat.lt_of_lt_of_le qa1.lt hgz
  have hb2 := hb1.trans (hbt.mono (HSS.out _ hb1))
  have Mz : S ≤ gz := Nat.le_trans (HSS.out _ hb1) hgz
  clear hbt hgz hb1 qa1
  rw [HN.out] at qz2
  go_wp2_with (first
    | (refine wpList_buildTo (by rfl) 26 #[] (by rfl) (some 24) (by rfl) (vals .u64 [0, 0, 0, 0, 0, 0, 0, 0, 0, 0, 0, 0]) (by kernel_rfl) ?_)
    | (have hq0 := hb4
       clear hq0
       go_at_call 17
       refine (P2.out _ (HG.out _ hb4)).mono ?_
       rintro e w5 ⟨rfl, hq⟩
       have qa5 := qa4.keep hq
       have qz5 := qz4.keep hq
       have qs5 := qs4.keep hq
       have hb5 := hb4.trans (hq.mono (HSS.out _ hb4))
       clear hq hb4 qa4 qz4 qs4)
    | (refine wpList_load_row rfl 26 (.tmp 1) rfl (S) rfl _ _ _ _ qa4.eq Tryd.underlying26 rfl (by rw [vals_size, ha.len]; kernel_rfl) ?_)
    | (refine store_abs2 (by rfl) 26 (.tmp 5) (.tmp 21) (by rfl) (by rfl) (w3.heap.size) (vals .u64 Q) (by rfl) (by rfl) 26 (vals .u64 Fp2.Z12) (Has.new' _ rfl _ _) (by rw [vals_size, LQ.out]; kernel_rfl) (by first | (rw [vals_size, vals_size, LQ.out]; rfl) | rfl) vals_one ?_
       intro w4 qs4 hkeep hbg
       have hbe := ((Below.refl w3.heap.size w3).alloc (Nat.le_refl _) (.cells (vals .u64 Fp2.Z12) 26)).trans hbg
       have Nas := qa3.lt
       have qa4 := qa3.keep hbe
       have Nzs := qz3.lt
       have qz4 := qz3.keep hbe
       have Ms : S ≤ w3.heap.size := HSS.out _ hb3
       have hb4 := hb3.trans (hbe.mono (HSS.out _ hb3))
       clear hkeep hbg hbe hb3 qa3 qz3)
    | (have hq0 := hb2
       clear hq0
       go_at_call 16
       refine (P1.out _ (HG.out _ hb2)).mono ?_
       rintro e w3 ⟨rfl, hq⟩
       have qa3 := qa2.keep hq
       have qz3 := qz2.keep hq
       have hb3 := hb2.trans (hq.mono (HSS.out _ hb2))
       clear hq hb2 qa2 qz2)
    | (refine wpList_load_row rfl 26 (.tmp 1) rfl (S) rfl _ _ _ _ qa2.eq Tryd.underlying26 rfl (by rw [vals_size, ha.len]; kernel_rfl) ?_))
  refine wp_reads 22 0 w5.heap.size (by kernel_rfl) (by kernel_rfl) (by rfl) (by kernel_rfl) (fun _ _ d _ _ h => by cases d <;> exact h) ?_
  simp only [List.take_succ_cons, List.take_zero]
  repeat ((first
    | refine take_eql_t (by rfl) (by rfl) (by rfl) (by rfl) eqok2 gd2 (Nm.len (n := 12) (by with_reducible first | exact Nm.fe _ | exact Nm.F2 _ | assumption | exact nm_one | exact nm_Z6 | (refine Nm.seg (m := 12) ?_ (by decide); assumption) | exact Nm.seg (m := 12) (Nm.F2 _) (by decide) | exact Nm.app2 (.fe _) (.fe _) | exact nm_rep | exact nm_Z12 | exact nm_two | (refine Nm.app2 ?_ nm_Z6; assumption) | exact Nm.app2 (.fe _) nm_Z6 | exact Nm.app2 nm_rep nm_one | exact ⟨rfl, words_of _ (by decide)⟩ | fail)) (Nm.len (n := 12) (by with_reducible first | exact Nm.fe _ | exact Nm.F2 _ | assumption | exact nm_one | exact nm_Z6 | (refine Nm.seg (m := 12) ?_ (by decide); assumption) | exact Nm.seg (m := 12) (Nm.F2 _) (by decide) | exact Nm.app2 (.fe _) (.fe _) | exact nm_rep | exact nm_Z12 | exact nm_two | (refine Nm.app2 ?_ nm_Z6; assumption) | exact Nm.app2 (.fe _) nm_Z6 | exact Nm.app2 nm_rep nm_one | exact ⟨rfl, words_of _ (by decide)⟩ | fail)) (by with_reducible first | rfl) ?_
    | refine take_neq_t (by rfl) (by rfl) (by rfl) (by rfl) eqok2 gd2 (Nm.len (n := 12) (by with_reducible first | exact Nm.fe _ | exact Nm.F2 _ | assumption | exact nm_one | exact nm_Z6 | (refine Nm.seg (m := 12) ?_ (by decide); assumption) | exact Nm.seg (m := 12) (Nm.F2 _) (by decide) | exact Nm.app2 (.fe _) (.fe _) | exact nm_rep | exact nm_Z12 | exact nm_two | (refine Nm.app2 ?_ nm_Z6; assumption) | exact Nm.app2 (.fe _) nm_Z6 | exact Nm.app2 nm_rep nm_one | exact ⟨rfl, words_of _ (by decide)⟩ | fail)) (Nm.len (n := 12) (by with_reducible first | exact Nm.fe _ | exact Nm.F2 _ | assumption | exact nm_one | exact nm_Z6 | (refine Nm.seg (m := 12) ?_ (by decide); assumption) | exact Nm.seg (m := 12) (Nm.F2 _) (by decide) | exact Nm.app2 (.fe _) (.fe _) | exact nm_rep | exact nm_Z12 | exact nm_two | (refine Nm.app2 ?_ nm_Z6; assumption) | exact Nm.app2 (.fe _) nm_Z6 | exact Nm.app2 nm_rep nm_one | exact ⟨rfl, words_of _ (by decide)⟩ | fail)) (by with_reducible first | rfl) ?_
    | refine take_eql_f (by rfl) (by rfl) (by rfl) (by rfl) eqok2 gd2 (Nm.len (n := 12) (by with_reducible first | exact Nm.fe _ | exact Nm.F2 _ | assumption | exact nm_one | exact nm_Z6 | (refine Nm.seg (m := 12) ?_ (by decide); assumption) | exact Nm.seg (m := 12) (Nm.F2 _) (by decide) | exact Nm.app2 (.fe _) (.fe _) | exact nm_rep | exact nm_Z12 | exact nm_two | (refine Nm.app2 ?_ nm_Z6; assumption) | exact Nm.app2 (.fe _) nm_Z6 | exact Nm.app2 nm_rep nm_one | exact ⟨rfl, words_of _ (by decide)⟩ | fail)) (Nm.len (n := 12) (by with_reducible first | exact Nm.fe _ | exact Nm.F2 _ | assumption | exact nm_one | exact nm_Z6 | (refine Nm.seg (m := 12) ?_ (by decide); assumption) | exact Nm.seg (m := 12) (Nm.F2 _) (by decide) | exact Nm.app2 (.fe _) (.fe _) | exact nm_rep | exact nm_Z12 | exact nm_two | (refine Nm.app2 ?_ nm_Z6; assumption) | exact Nm.app2 (.fe _) nm_Z6 | exact Nm.app2 nm_rep nm_one | exact ⟨rfl, words_of _ (by decide)⟩ | fail)) (by with_reducible first | assumption) ?_
    | refine take_neq_f (by rfl) (by rfl) (by rfl) (by rfl) eqok2 gd2 (Nm.len (n := 12) (by with_reducible first | exact Nm.fe _ | exact Nm.F2 _ | assumption | exact nm_one | exact nm_Z6 | (refine Nm.seg (m := 12) ?_ (by decide); assumption) | exact Nm.seg (m := 12) (Nm.F2 _) (by decide) | exact Nm.app2 (.fe _) (.fe _) | exact nm_rep | exact nm_Z12 | exact nm_two | (refine Nm.app2 ?_ nm_Z6; assumption) | exact Nm.app2 (.fe _) nm_Z6 | exact Nm.app2 nm_rep nm_one | exact ⟨rfl, words_of _ (by decide)⟩ | fail)) (Nm.len (n := 12) (by with_reducible first | exact Nm.fe _ | exact Nm.F2 _ | assumption | exact nm_one | exact nm_Z6 | (refine Nm.seg (m := 12) ?_ (by decide); assumption) | exact Nm.seg (m := 12) (Nm.F2 _) (by decide) | exact Nm.app2 (.fe _) (.fe _) | exact nm_rep | exact nm_Z12 | exact nm_two | (refine Nm.app2 ?_ nm_Z6; assumption) | exact Nm.app2 (.fe _) nm_Z6 | exact Nm.app2 nm_rep nm_one | exact ⟨rfl, words_of _ (by decide)⟩ | fail)) (by with_reducible first | assumption) ?_
    | refine take_build (by rfl) (t := 26) (parts := #[(0, .tmp 36)]) (by rfl) (cells := vals .u64 b) (by rw [← hb]; exact build2z nb) ?_
    | refine take_load (by rfl) 24 (by rfl) (g := S) (n := 6) (by rfl) (t := 26) (xs := a) (fun w hw => hw.has qa5 (Nat.ne_of_lt qa5.lt)) Tryd.underlying24 rfl (by kernel_rfl) (by rw [ha.len]; decide) ?_
    | refine take_loadw (by rfl) 26 (by rfl) (g := S) (n := 12) (by rfl) (t := 26) (xs := a) (fun w hw => hw.has qa5 (Nat.ne_of_lt qa5.lt)) Tryd.underlying26 rfl (by kernel_rfl) ha.len ?_
    | refine take_loadw (by rfl) 24 (by rfl) (g := gz) (n := 6) (by rfl) (t := 24) (xs := n) (fun w hw => hw.has qz5 (Nat.ne_of_lt qz5.lt)) Tryd.underlying24 rfl (by kernel_rfl) Ln.out ?_
    | refine take_load (by rfl) 24 (by rfl) (g := w3.heap.size) (n := 6) (by rfl) (t := 26) (xs := Q) (fun w hw => hw.has qs5 (Nat.ne_of_lt qs5.lt)) Tryd.underlying24 rfl (by kernel_rfl) (by rw [LQ.out]; decide) ?_
    | refine take_loadw (by rfl) 26 (by rfl) (g := w3.heap.size) (n := 12) (by rfl) (t := 26) (xs := Q) (fun w hw => hw.has qs5 (Nat.ne_of_lt qs5.lt)) Tryd.underlying26 rfl (by kernel_rfl) LQ.out ?_
    | refine wpTake_cons (.inl ⟨by rfl, fun w hw => (by unfold Oper.quietAt; go_simp; (first | with_reducible refine P3.out _ (HD.out _ (hb5.trans (hw.below (HSS.out _ hb5) (HSS.out _ hb5)))) | with_reducible refine P4.out _ (HG.out _ (hb5.trans (hw.below (HSS.out _ hb5) (HSS.out _ hb5)))) | with_reducible refine P5.out _ (HD.out _ (hb5.trans (hw.below (HSS.out _ hb5) (HSS.out _ hb5)))) | with_reducible refine P6.out _ (HG.out _ (hb5.trans (hw.below (HSS.out _ hb5) (HSS.out _ hb5)))) | with_reducible refine P7.out _ (HD.out _ (hb5.trans (hw.below (HSS.out _ hb5) (HSS.out _ hb5))))) <;> (with_reducible first | exact Nm.fe _ | exact Nm.F2 _ | assumption | exact nm_one | exact nm_Z6 | (refine Nm.seg (m := 12) ?_ (by decide); assumption) | exact Nm.seg (m := 12) (Nm.F2 _) (by decide) | exact Nm.app2 (.fe _) (.fe _) | exact nm_rep | exact nm_Z12 | exact nm_two | (refine Nm.app2 ?_ nm_Z6; assumption) | exact Nm.app2 (.fe _) nm_Z6 | exact Nm.app2 nm_rep nm_one | exact ⟨rfl, words_of _ (by decide)⟩ | fail))⟩) ?_
    | refine take_skip (by rfl) ?_
    | refine wpTake_cons (Steady.of_yields (Or.inl ⟨by rfl, fun w => (by first | (go_simp; done) | (go_simp; with_reducible rfl))⟩)) ?_); simp only [List.getElem_toArray, List.getElem_cons_zero, List.getElem_cons_succ, Act.put, List.setIfInBounds_toArray, List.set_cons_zero, List.set_cons_succ])
  refine wpTake_nil ?_
  refine wpAnyU_end (by kernel_rfl) (fun w6 hq0 => ?_)
  have hq := (drawn_below w5).trans hq0
  have qa6 := qa5.keep hq
  have qz6 := qz5.keep hq
  have qs6 := qs5.keep hq
  have hb6 := hb5.trans (hq.mono (HSS.out _ hb5))
  clear hq0 hq hb5 qa5 qz5 qs5
  go_wp2
  go_ret
  exact ⟨rfl, hb6⟩

set_option maxRecDepth 100000 in
set_option maxHeartbeats 4000000 in
theorem norms_some (a : List Int) (ha : Nm 12 a) (w : World) (hG : GlobD w) (hz : ¬ Z2 (v2 a)) : Calls Tryd.prog 5 #[.agg (vals .u64 a)] w fun e w' => e = .returned (.bool true) ∧ Below w.heap.size w w' := by
  obtain ⟨n, hn⟩ : ∃ o, (Fp.fe (num (Fp.fe (num (seg 0 6 a) * num (seg 0 6 a))) + num (Fp.fe (num (seg 6 6 a) * num (seg 6 6 a))))) = o := ⟨_, rfl⟩
  have nn : Nm 6 n := hn ▸ .fe _
  have Ln : Keep (n.length = 6) := ⟨nn.len⟩
  have HN : Keep ((Fp.fe (num (Fp.fe (num (seg 0 6 a) * num (seg 0 6 a))) + num (Fp.fe (num (seg 6 6 a) * num (seg 6 6 a))))) = n) := ⟨hn⟩
  obtain ⟨Q, hQ⟩ : ∃ o, F2 (gm (v2 a) (v2 a)) = o := ⟨_, rfl⟩
  have nQ : Nm 12 Q := hQ ▸ .F2 _
  have LQ : Keep (Q.length = 12) := ⟨nQ.len⟩
  obtain ⟨X, hX⟩ : ∃ o, F2 (gm (v2 Q) (1, 1)) = o := ⟨_, rfl⟩
  have nX : Nm 12 X := hX ▸ .F2 _
  have LX : Keep (X.length = 12) := ⟨nX.len⟩
  obtain ⟨Y, hY⟩ : ∃ o, F2 (v2 a) = o := ⟨_, rfl⟩
  have nY : Nm 12 Y := hY ▸ .F2 _
  have LY : Keep (Y.length = 12) := ⟨nY.len⟩
  obtain ⟨k, hk⟩ : ∃ k, gsq (v2 a) = k := ⟨_, rfl⟩
  have nb : Nm 6 (seg 0 6 a) := ha.seg (by decide)
  obtain ⟨b, hb⟩ : ∃ b, seg 0 6 a ++ Z6 = b := ⟨_, rfl⟩
  have nB : Nm 12 b := hb ▸ nb.app2 nm_Z6
  have hq : Fp2.E2 (gm (v2 a) (v2 a)) (v2 Q) := by rw [← hQ]; exact (v2_F2 _).symm
  have hxi : gsq (v2 X) = false := by
    rw [← hX, gsq_congr (v2_F2 _), gsq_xi (gsq_of hq)]
    exact decide_eq_false (fun h0 => hz (by
      have h1 := Z2.congr hq.symm ((F2_zero _).1 h0)
      by_cases h2 : Z2 (v2 a)
      · exact h2
      · exact gm_zero h1 h2))
  have P1 : Keep (∀ x : World, Glob x → Calls Tryd.prog 16 #[.agg (vals .u64 a), .agg (vals .u64 a)] x fun e x' => e = .returned (.agg (vals .u64 Q)) ∧ Below x.heap.size x x') := ⟨fun x hG => by
    have h9 := lMul2 a ha a ha x hG
    rwa [hQ] at h9⟩
  have P2 : Keep (∀ x : World, Glob x → Calls Tryd.prog 17 #[.agg (vals .u64 a)] x fun e x' => e = .returned (.agg (vals .u64 Y)) ∧ Below x.heap.size x x') := ⟨fun x hG => by
    have h9 := lRed2 a ha x hG
    rwa [hY] at h9⟩
  have P3 : Keep (∀ x : World, GlobD x → Calls Tryd.prog 11 #[.agg (vals .u64 a)] x fun e x' => e = .returned (.bool k) ∧ Below x.heap.size x x') := ⟨fun x hG => by
    have h9 := lIs a ha x hG
    rwa [hk] at h9⟩
  have P4 : Keep (∀ x : World, Glob x → Calls Tryd.prog 21 #[.agg (vals .u64 n)] x fun e x' => e = .returned (.bool k) ∧ Below x.heap.size x x') := ⟨fun x hG => by
    have h9 := Fpr.is_c n nn.len nn.words x hG
    rwa [← hn, nrm_eq, sq_fe, ← nrm_eq, hn, show sq (gnorm (v2 a)) = k from hk] at h9⟩
  have P5 : Keep (∀ x : World, GlobD x → Calls Tryd.prog 11 #[.agg (vals .u64 b)] x fun e x' => e = .returned (.bool true) ∧ Below x.heap.size x x') := ⟨fun x hG => by
    have h9 := lIs b nB x hG
    rw [← hb, v2_app nb nm_Z6, show num Z6 = 0 from by decide, gsq_real, hb] at h9
    exact h9⟩
  have P6 : Keep (∀ x : World, Glob x → Calls Tryd.prog 22 #[.agg (vals .u64 Q)] x fun e x' => e = .returned (.agg (vals .u64 X)) ∧ Below x.heap.size x x') := ⟨fun x hG => by
    have h9 := lXi2 Q nQ x hG
    rwa [hX] at h9⟩
  have P7 : Keep (∀ x : World, GlobD x → Calls Tryd.prog 11 #[.agg (vals .u64 X)] x fun e x' => e = .returned (.bool false) ∧ Below x.heap.size x x') := ⟨fun x hG => by
    have h9 := lIs X nX x hG
    rwa [hxi] at h9⟩
  have hE : Keep (Y ≠ [0, 0, 0, 0, 0, 0, 0, 0, 0, 0, 0, 0]) := ⟨by rw [← hY]; exact fun h0 => hz ((F2_zero _).1 h0)⟩
  have E1 := neq12 (m := [0, 0, 0, 0, 0, 0, 0, 0, 0, 0, 0, 0]) nY.len rfl hE.out
  have hgd := gd2
  obtain ⟨S, hS⟩ : ∃ S, w.heap.size = S := ⟨_, rfl⟩
  have qa0 : Has (w.alloc (.cells (vals .u64 a) 26)) (S) 26 (vals .u64 a) := (Has.new' _ hS.symm _ _)
  have hb0 : Below S w (w.alloc (.cells (vals .u64 a) 26)) := by rw [← hS]; exact ((Below.refl _ _).alloc (Nat.le_refl _) _)
  have hsz0 : (w.alloc (.cells (vals .u64 a) 26)).heap.size = S + 1 := by simp only [World.size_alloc, hS]
  have HSS : Keep (∀ x : World, Below S w x → S ≤ x.heap.size) := ⟨fun x hb => Nat.le_trans (by omega) hb.size⟩
  have HD : Keep (∀ x : World, Below S w x → GlobD x) := ⟨fun x hb => hG.keep (by rw [hS]; exact hb)⟩
  have HG : Keep (∀ x : World, Below S w x → Glob x) := ⟨fun x hb => (HD.out x hb).toGlob⟩
  clear hG
  clear hz hn hQ hX hY hk hq hxi
  rw [hS]
  go_enter Tryd.func5, Tryd.ntmps5
  go_wp2_with (first
    | (have hq0 := hb0
       clear hq0
       go_at_call 8
       refine (awake_c _ (HD.out _ hb0)).mono ?_
       rintro e w1 ⟨rfl, hq⟩
       have qa1 := qa0.keep hq
       have hb1 := hb0.trans (hq.mono (HSS.out _ hb0))
       clear hq hb0 qa0))
  refine wp_reads 11 2 w1.heap.size (by kernel_rfl) (by kernel_rfl) (by rfl) (by kernel_rfl) (fun _ _ d _ _ h => by cases d <;> exact h) ?_
  simp only [List.take_succ_cons, List.take_zero]
  repeat ((first
    | refine take_load (by rfl) 24 (by rfl) (g := S) (n := 6) (by rfl) (t := 26) (xs := a) (fun w hw => hw.has qa1 (Nat.ne_of_lt qa1.lt)) Tryd.underlying24 rfl (by kernel_rfl) (by rw [ha.len]; decide) ?_
    | refine take_loadw (by rfl) 26 (by rfl) (g := S) (n := 12) (by rfl) (t := 26) (xs := a) (fun w hw => hw.has qa1 (Nat.ne_of_lt qa1.lt)) Tryd.underlying26 rfl (by kernel_rfl) ha.len ?_
    | refine wpTake_cons (.inl ⟨by rfl, fun w hw => (by unfold Oper.quietAt; go_simp; (first | with_reducible refine pAdd ?_ ?_ _ (HG.out _ (hb1.trans (hw.below (HSS.out _ hb1) (HSS.out _ hb1)))) | with_reducible refine pMul ?_ ?_ _ (HG.out _ (hb1.trans (hw.below (HSS.out _ hb1) (HSS.out _ hb1))))) <;> (with_reducible first | exact Nm.fe _ | exact Nm.F2 _ | assumption | exact nm_one | exact nm_Z6 | (refine Nm.seg (m := 12) ?_ (by decide); assumption) | exact Nm.seg (m := 12) (Nm.F2 _) (by decide) | exact Nm.app2 (.fe _) (.fe _) | exact nm_rep | exact nm_Z12 | exact nm_two | (refine Nm.app2 ?_ nm_Z6; assumption) | exact Nm.app2 (.fe _) nm_Z6 | exact Nm.app2 nm_rep nm_one | exact ⟨rfl, words_of _ (by decide)⟩ | fail))⟩) ?_
    | refine wpTake_cons (Steady.of_yields (Or.inl ⟨by rfl, fun w => (by first | (go_simp; done) | (go_simp; with_reducible rfl))⟩)) ?_); simp only [List.getElem_toArray, List.getElem_cons_zero, List.getElem_cons_succ, Act.put, List.setIfInBounds_toArray, List.set_cons_zero, List.set_cons_succ])
  refine wpTake_nil ?_
  refine tail_new (i := 11) (j := 12) (by rfl) (by rfl) (by kernel_rfl) (by kernel_rfl) (by kernel_rfl) (by rfl) 24 4 (by rfl) (by rfl) (by rfl) (.tmp 4) (.tmp 18) (by rfl) (by rfl) _ (vals .u64 Z6) (fun _ => by rfl) (fun _ => by rfl) (by exact ⟨_, _, rfl, rfl, by kernel_rfl⟩) (by rw [vals_size, (Nm.fe _).len]; kernel_rfl) (by rw [vals_size, vals_size, (Nm.fe _).len]; rfl) vals_one ?_
  intro w2 gz hgz qz2 hbt
  simp only [List.getElem_toArray, List.getElem_cons_zero, List.getElem_cons_succ, Act.put, List.setIfInBounds_toArray, List.set_cons_zero, List.set_cons_succ]
  have qa2 := qa1.keep hbt
  have Naz := Nat.lt_of_lt_of_le qa1.lt hgz
  have hb2 := hb1.trans (hbt.mono (HSS.out _ hb1))
  have Mz : S ≤ gz := Nat.le_trans (HSS.out _ hb1) hgz
  clear hbt hgz hb1 qa1
  rw [HN.out] at qz2
  go_wp2_with (first
    | (refine wpList_buildTo (by rfl) 26 #[] (by rfl) (some 24) (by rfl) (vals .u64 [0, 0, 0, 0, 0, 0, 0, 0, 0, 0, 0, 0]) (by kernel_rfl) ?_)
    | (have hq0 := hb4
       clear hq0
       go_at_call 17
       refine (P2.out _ (HG.out _ hb4)).mono ?_
       rintro e w5 ⟨rfl, hq⟩
       have qa5 := qa4.keep hq
       have qz5 := qz4.keep hq
       have qs5 := qs4.keep hq
       have hb5 := hb4.trans (hq.mono (HSS.out _ hb4))
       clear hq hb4 qa4 qz4 qs4)
    | (refine wpList_load_row rfl 26 (.tmp 1) rfl (S) rfl _ _ _ _ qa4.eq Tryd.underlying26 rfl (by rw [vals_size, ha.len]; kernel_rfl) ?_)
    | (refine store_abs2 (by rfl) 26 (.tmp 5) (.tmp 21) (by rfl) (by rfl) (w3.heap.size) (vals .u64 Q) (by rfl) (by rfl) 26 (vals .u64 Fp2.Z12) (Has.new' _ rfl _ _) (by rw [vals_size, LQ.out]; kernel_rfl) (by first | (rw [vals_size, vals_size, LQ.out]; rfl) | rfl) vals_one ?_
       intro w4 qs4 hkeep hbg
       have hbe := ((Below.refl w3.heap.size w3).alloc (Nat.le_refl _) (.cells (vals .u64 Fp2.Z12) 26)).trans hbg
       have Nas := qa3.lt
       have qa4 := qa3.keep hbe
       have Nzs := qz3.lt
       have qz4 := qz3.keep hbe
       have Ms : S ≤ w3.heap.size := HSS.out _ hb3
       have hb4 := hb3.trans (hbe.mono (HSS.out _ hb3))
       clear hkeep hbg hbe hb3 qa3 qz3)
    | (have hq0 := hb2
       clear hq0
       go_at_call 16
       refine (P1.out _ (HG.out _ hb2)).mono ?_
       rintro e w3 ⟨rfl, hq⟩
       have qa3 := qa2.keep hq
       have qz3 := qz2.keep hq
       have hb3 := hb2.trans (hq.mono (HSS.out _ hb2))
       clear hq hb2 qa2 qz2)
    | (refine wpList_load_row rfl 26 (.tmp 1) rfl (S) rfl _ _ _ _ qa2.eq Tryd.underlying26 rfl (by rw [vals_size, ha.len]; kernel_rfl) ?_))
  refine wp_reads 22 0 w5.heap.size (by kernel_rfl) (by kernel_rfl) (by rfl) (by kernel_rfl) (fun _ _ d _ _ h => by cases d <;> exact h) ?_
  simp only [List.take_succ_cons, List.take_zero]
  repeat ((first
    | refine take_eql_t (by rfl) (by rfl) (by rfl) (by rfl) eqok2 gd2 (Nm.len (n := 12) (by with_reducible first | exact Nm.fe _ | exact Nm.F2 _ | assumption | exact nm_one | exact nm_Z6 | (refine Nm.seg (m := 12) ?_ (by decide); assumption) | exact Nm.seg (m := 12) (Nm.F2 _) (by decide) | exact Nm.app2 (.fe _) (.fe _) | exact nm_rep | exact nm_Z12 | exact nm_two | (refine Nm.app2 ?_ nm_Z6; assumption) | exact Nm.app2 (.fe _) nm_Z6 | exact Nm.app2 nm_rep nm_one | exact ⟨rfl, words_of _ (by decide)⟩ | fail)) (Nm.len (n := 12) (by with_reducible first | exact Nm.fe _ | exact Nm.F2 _ | assumption | exact nm_one | exact nm_Z6 | (refine Nm.seg (m := 12) ?_ (by decide); assumption) | exact Nm.seg (m := 12) (Nm.F2 _) (by decide) | exact Nm.app2 (.fe _) (.fe _) | exact nm_rep | exact nm_Z12 | exact nm_two | (refine Nm.app2 ?_ nm_Z6; assumption) | exact Nm.app2 (.fe _) nm_Z6 | exact Nm.app2 nm_rep nm_one | exact ⟨rfl, words_of _ (by decide)⟩ | fail)) (by with_reducible first | rfl) ?_
    | refine take_neq_t (by rfl) (by rfl) (by rfl) (by rfl) eqok2 gd2 (Nm.len (n := 12) (by with_reducible first | exact Nm.fe _ | exact Nm.F2 _ | assumption | exact nm_one | exact nm_Z6 | (refine Nm.seg (m := 12) ?_ (by decide); assumption) | exact Nm.seg (m := 12) (Nm.F2 _) (by decide) | exact Nm.app2 (.fe _) (.fe _) | exact nm_rep | exact nm_Z12 | exact nm_two | (refine Nm.app2 ?_ nm_Z6; assumption) | exact Nm.app2 (.fe _) nm_Z6 | exact Nm.app2 nm_rep nm_one | exact ⟨rfl, words_of _ (by decide)⟩ | fail)) (Nm.len (n := 12) (by with_reducible first | exact Nm.fe _ | exact Nm.F2 _ | assumption | exact nm_one | exact nm_Z6 | (refine Nm.seg (m := 12) ?_ (by decide); assumption) | exact Nm.seg (m := 12) (Nm.F2 _) (by decide) | exact Nm.app2 (.fe _) (.fe _) | exact nm_rep | exact nm_Z12 | exact nm_two | (refine Nm.app2 ?_ nm_Z6; assumption) | exact Nm.app2 (.fe _) nm_Z6 | exact Nm.app2 nm_rep nm_one | exact ⟨rfl, words_of _ (by decide)⟩ | fail)) (by with_reducible first | rfl) ?_
    | refine take_eql_f (by rfl) (by rfl) (by rfl) (by rfl) eqok2 gd2 (Nm.len (n := 12) (by with_reducible first | exact Nm.fe _ | exact Nm.F2 _ | assumption | exact nm_one | exact nm_Z6 | (refine Nm.seg (m := 12) ?_ (by decide); assumption) | exact Nm.seg (m := 12) (Nm.F2 _) (by decide) | exact Nm.app2 (.fe _) (.fe _) | exact nm_rep | exact nm_Z12 | exact nm_two | (refine Nm.app2 ?_ nm_Z6; assumption) | exact Nm.app2 (.fe _) nm_Z6 | exact Nm.app2 nm_rep nm_one | exact ⟨rfl, words_of _ (by decide)⟩ | fail)) (Nm.len (n := 12) (by with_reducible first | exact Nm.fe _ | exact Nm.F2 _ | assumption | exact nm_one | exact nm_Z6 | (refine Nm.seg (m := 12) ?_ (by decide); assumption) | exact Nm.seg (m := 12) (Nm.F2 _) (by decide) | exact Nm.app2 (.fe _) (.fe _) | exact nm_rep | exact nm_Z12 | exact nm_two | (refine Nm.app2 ?_ nm_Z6; assumption) | exact Nm.app2 (.fe _) nm_Z6 | exact Nm.app2 nm_rep nm_one | exact ⟨rfl, words_of _ (by decide)⟩ | fail)) (by with_reducible first | assumption) ?_
    | refine take_neq_f (by rfl) (by rfl) (by rfl) (by rfl) eqok2 gd2 (Nm.len (n := 12) (by with_reducible first | exact Nm.fe _ | exact Nm.F2 _ | assumption | exact nm_one | exact nm_Z6 | (refine Nm.seg (m := 12) ?_ (by decide); assumption) | exact Nm.seg (m := 12) (Nm.F2 _) (by decide) | exact Nm.app2 (.fe _) (.fe _) | exact nm_rep | exact nm_Z12 | exact nm_two | (refine Nm.app2 ?_ nm_Z6; assumption) | exact Nm.app2 (.fe _) nm_Z6 | exact Nm.app2 nm_rep nm_one | exact ⟨rfl, words_of _ (by decide)⟩ | fail)) (Nm.len (n := 12) (by with_reducible first | exact Nm.fe _ | exact Nm.F2 _ | assumption | exact nm_one | exact nm_Z6 | (refine Nm.seg (m := 12) ?_ (by decide); assumption) | exact Nm.seg (m := 12) (Nm.F2 _) (by decide) | exact Nm.app2 (.fe _) (.fe _) | exact nm_rep | exact nm_Z12 | exact nm_two | (refine Nm.app2 ?_ nm_Z6; assumption) | exact Nm.app2 (.fe _) nm_Z6 | exact Nm.app2 nm_rep nm_one | exact ⟨rfl, words_of _ (by decide)⟩ | fail)) (by with_reducible first | assumption) ?_
    | refine take_build (by rfl) (t := 26) (parts := #[(0, .tmp 36)]) (by rfl) (cells := vals .u64 b) (by rw [← hb]; exact build2z nb) ?_
    | refine take_load (by rfl) 24 (by rfl) (g := S) (n := 6) (by rfl) (t := 26) (xs := a) (fun w hw => hw.has qa5 (Nat.ne_of_lt qa5.lt)) Tryd.underlying24 rfl (by kernel_rfl) (by rw [ha.len]; decide) ?_
    | refine take_loadw (by rfl) 26 (by rfl) (g := S) (n := 12) (by rfl) (t := 26) (xs := a) (fun w hw => hw.has qa5 (Nat.ne_of_lt qa5.lt)) Tryd.underlying26 rfl (by kernel_rfl) ha.len ?_
    | refine take_loadw (by rfl) 24 (by rfl) (g := gz) (n := 6) (by rfl) (t := 24) (xs := n) (fun w hw => hw.has qz5 (Nat.ne_of_lt qz5.lt)) Tryd.underlying24 rfl (by kernel_rfl) Ln.out ?_
    | refine take_load (by rfl) 24 (by rfl) (g := w3.heap.size) (n := 6) (by rfl) (t := 26) (xs := Q) (fun w hw => hw.has qs5 (Nat.ne_of_lt qs5.lt)) Tryd.underlying24 rfl (by kernel_rfl) (by rw [LQ.out]; decide) ?_
    | refine take_loadw (by rfl) 26 (by rfl) (g := w3.heap.size) (n := 12) (by rfl) (t := 26) (xs := Q) (fun w hw => hw.has qs5 (Nat.ne_of_lt qs5.lt)) Tryd.underlying26 rfl (by kernel_rfl) LQ.out ?_
    | refine wpTake_cons (.inl ⟨by rfl, fun w hw => (by unfold Oper.quietAt; go_simp; (first | with_reducible refine P3.out _ (HD.out _ (hb5.trans (hw.below (HSS.out _ hb5) (HSS.out _ hb5)))) | with_reducible refine P4.out _ (HG.out _ (hb5.trans (hw.below (HSS.out _ hb5) (HSS.out _ hb5)))) | with_reducible refine P5.out _ (HD.out _ (hb5.trans (hw.below (HSS.out _ hb5) (HSS.out _ hb5)))) | with_reducible refine P6.out _ (HG.out _ (hb5.trans (hw.below (HSS.out _ hb5) (HSS.out _ hb5)))) | with_reducible refine P7.out _ (HD.out _ (hb5.trans (hw.below (HSS.out _ hb5) (HSS.out _ hb5))))) <;> (with_reducible first | exact Nm.fe _ | exact Nm.F2 _ | assumption | exact nm_one | exact nm_Z6 | (refine Nm.seg (m := 12) ?_ (by decide); assumption) | exact Nm.seg (m := 12) (Nm.F2 _) (by decide) | exact Nm.app2 (.fe _) (.fe _) | exact nm_rep | exact nm_Z12 | exact nm_two | (refine Nm.app2 ?_ nm_Z6; assumption) | exact Nm.app2 (.fe _) nm_Z6 | exact Nm.app2 nm_rep nm_one | exact ⟨rfl, words_of _ (by decide)⟩ | fail))⟩) ?_
    | refine take_skip (by rfl) ?_
    | refine wpTake_cons (Steady.of_yields (Or.inl ⟨by rfl, fun w => (by first | (go_simp; done) | (go_simp; with_reducible rfl))⟩)) ?_); simp only [List.getElem_toArray, List.getElem_cons_zero, List.getElem_cons_succ, Act.put, List.setIfInBounds_toArray, List.set_cons_zero, List.set_cons_succ])
  refine wpTake_nil ?_
  refine wpAnyU_end (by kernel_rfl) (fun w6 hq0 => ?_)
  have hq := (drawn_below w5).trans hq0
  have qa6 := qa5.keep hq
  have qz6 := qz5.keep hq
  have qs6 := qs5.keep hq
  have hb6 := hb5.trans (hq.mono (HSS.out _ hb5))
  clear hq0 hq hb5 qa5 qz5 qs5
  go_wp2
  go_ret
  exact ⟨rfl, hb6⟩

set_option maxRecDepth 100000 in
set_option maxHeartbeats 4000000 in
theorem norms_w (a : List Int) (ha : Nm 12 a) (w : World) (hG : GlobD w) : Calls Tryd.prog 5 #[.agg (vals .u64 a)] w fun e w' => e = .returned (.bool true) ∧ Below w.heap.size w w' := by
  by_cases hz : Z2 (v2 a)
  · exact norms_zero a ha w hG hz
  · exact norms_some a ha w hG hz

set_option maxRecDepth 100000 in
set_option maxHeartbeats 4000000 in
theorem products_zero (a : List Int) (ha : Nm 12 a) (b : List Int) (hb : Nm 12 b) (w : World) (hG : GlobD w) (hz : Z2 (gm (v2 a) (v2 b))) : Calls Tryd.prog 6 #[.agg (vals .u64 a), .agg (vals .u64 b)] w fun e w' => e = .returned (.bool true) ∧ Below w.heap.size w w' := by
  obtain ⟨M, hM⟩ : ∃ o, F2 (gm (v2 a) (v2 b)) = o := ⟨_, rfl⟩
  have nM : Nm 12 M := hM ▸ .F2 _
  have LM : Keep (M.length = 12) := ⟨nM.len⟩
  have hm : Fp2.E2 (gm (v2 a) (v2 b)) (v2 M) := by rw [← hM]; exact (v2_F2 _).symm
  have hs : gsq (v2 M) = true := by
    rw [← gsq_congr hm]
    exact gsq_zero hz
  obtain ⟨V, hV⟩ : ∃ o, root2 (v2 M) = o := ⟨_, rfl⟩
  have nV : Nm 12 V := hV ▸ (root2_nm _)
  have LV : Keep (V.length = 12) := ⟨nV.len⟩
  have P1 : Keep (∀ x : World, Glob x → Calls Tryd.prog 16 #[.agg (vals .u64 a), .agg (vals .u64 b)] x fun e x' => e = .returned (.agg (vals .u64 M)) ∧ Below x.heap.size x x') := ⟨fun x hG => by
    have h9 := lMul2 a ha b hb x hG
    rwa [hM] at h9⟩
  have P2 : Keep (∀ x : World, GlobD x → Calls Tryd.prog 9 #[.agg (vals .u64 M)] x fun e x' => e = .returned (.tuple #[.agg (vals .u64 V), .bool true]) ∧ Below x.heap.size x x') := ⟨fun x hG => by
    have h9 := lSq_yes M nM hs x hG
    rwa [hV] at h9⟩
  have hr : F2 (gm (v2 V) (v2 V)) = M := by
    rw [← hV, root2_two hs]
    exact (F2_eq hm.symm).trans hM
  have P3 : Keep (∀ x : World, Glob x → Calls Tryd.prog 16 #[.agg (vals .u64 V), .agg (vals .u64 V)] x fun e x' => e = .returned (.agg (vals .u64 M)) ∧ Below x.heap.size x x') := ⟨fun x hG => by
    have h9 := lMul2 V nV V nV x hG
    rwa [hr] at h9⟩
  have hE : Keep (M = [0, 0, 0, 0, 0, 0, 0, 0, 0, 0, 0, 0]) := ⟨by rw [← hM]; exact (F2_zero _).2 hz⟩
  have E1 : ∀ w : World, (Op.equalIn 10000 26 (.agg (vals .u64 M)) (.agg (vals .u64 [0, 0, 0, 0, 0, 0, 0, 0, 0, 0, 0, 0]))).run Tryd.prog w = .ok true w := fun w => by rw [eqok2 w M [0, 0, 0, 0, 0, 0, 0, 0, 0, 0, 0, 0] nM.len rfl, decide_eq_true hE.out]
  have hgd := gd2
  obtain ⟨S, hS⟩ : ∃ S, w.heap.size = S := ⟨_, rfl⟩
  have qa0 : Has ((w.alloc (.cells (vals .u64 a) 26)).alloc (.cells (vals .u64 b) 26)) (S) 26 (vals .u64 a) := ((Has.new' _ hS.symm _ _).alloc _)
  have qb0 : Has ((w.alloc (.cells (vals .u64 a) 26)).alloc (.cells (vals .u64 b) 26)) (S + 1) 26 (vals .u64 b) := (Has.new' _ (by simp only [World.size_alloc, hS]) _ _)
  have hb0 : Below S w ((w.alloc (.cells (vals .u64 a) 26)).alloc (.cells (vals .u64 b) 26)) := by rw [← hS]; exact (((Below.refl _ _).alloc (Nat.le_refl _) _).alloc (by simp <;> omega) _)
  have hsz0 : ((w.alloc (.cells (vals .u64 a) 26)).alloc (.cells (vals .u64 b) 26)).heap.size = S + 2 := by simp only [World.size_alloc, hS]
  have HSS : Keep (∀ x : World, Below S w x → S ≤ x.heap.size) := ⟨fun x hb => Nat.le_trans (by omega) hb.size⟩
  have HD : Keep (∀ x : World, Below S w x → GlobD x) := ⟨fun x hb => hG.keep (by rw [hS]; exact hb)⟩
  have HG : Keep (∀ x : World, Below S w x → Glob x) := ⟨fun x hb => (HD.out x hb).toGlob⟩
  clear hG
  clear hz hM hm hs hV hr
  rw [hS]
  go_enter Tryd.func6, Tryd.ntmps6
  go_wp2_with (first
    | (refine store_abs2 (by rfl) 26 (.tmp 7) (.tmp 16) (by rfl) (by rfl) (w4.heap.size) (vals .u64 V) (by rfl) (by rfl) 26 (vals .u64 Fp2.Z12) (Has.new' _ rfl _ _) (by rw [vals_size, LV.out]; kernel_rfl) (by first | (rw [vals_size, vals_size, LV.out]; rfl) | rfl) vals_one ?_
       intro w5 qx5 hkeep hbg
       have hbe := ((Below.refl w4.heap.size w4).alloc (Nat.le_refl _) (.cells (vals .u64 Fp2.Z12) 26)).trans hbg
       have Nax := qa4.lt
       have qa5 := qa4.keep hbe
       have Nbx := qb4.lt
       have qb5 := qb4.keep hbe
       have Nmx := qm4.lt
       have qm5 := qm4.keep hbe
       have Mx : S ≤ w4.heap.size := HSS.out _ hb4
       have hb5 := hb4.trans (hbe.mono (HSS.out _ hb4))
       clear hkeep hbg hbe hb4 qa4 qb4 qm4)
    | (have hq0 := hb3
       clear hq0
       go_at_call 9
       refine (P2.out _ (HD.out _ hb3)).mono ?_
       rintro e w4 ⟨rfl, hq⟩
       have qa4 := qa3.keep hq
       have qb4 := qb3.keep hq
       have qm4 := qm3.keep hq
       have hb4 := hb3.trans (hq.mono (HSS.out _ hb3))
       clear hq hb3 qa3 qb3 qm3)
    | (refine wpList_load_row rfl 26 (.tmp 6) rfl (w2.heap.size) rfl _ _ _ _ qm3.eq Tryd.underlying26 rfl (by rw [vals_size, LM.out]; kernel_rfl) ?_)
    | (refine store_abs2 (by rfl) 26 (.tmp 6) (.tmp 12) (by rfl) (by rfl) (w2.heap.size) (vals .u64 M) (by rfl) (by rfl) 26 (vals .u64 Fp2.Z12) (Has.new' _ rfl _ _) (by rw [vals_size, LM.out]; kernel_rfl) (by first | (rw [vals_size, vals_size, LM.out]; rfl) | rfl) vals_one ?_
       intro w3 qm3 hkeep hbg
       have hbe := ((Below.refl w2.heap.size w2).alloc (Nat.le_refl _) (.cells (vals .u64 Fp2.Z12) 26)).trans hbg
       have Nam := qa2.lt
       have qa3 := qa2.keep hbe
       have Nbm := qb2.lt
       have qb3 := qb2.keep hbe
       have Mm : S ≤ w2.heap.size := HSS.out _ hb2
       have hb3 := hb2.trans (hbe.mono (HSS.out _ hb2))
       clear hkeep hbg hbe hb2 qa2 qb2)
    | (have hq0 := hb1
       clear hq0
       go_at_call 16
       refine (P1.out _ (HG.out _ hb1)).mono ?_
       rintro e w2 ⟨rfl, hq⟩
       have qa2 := qa1.keep hq
       have qb2 := qb1.keep hq
       have hb2 := hb1.trans (hq.mono (HSS.out _ hb1))
       clear hq hb1 qa1 qb1)
    | (refine wpList_load_row rfl 26 (.tmp 3) rfl (S + 1) rfl _ _ _ _ qb1.eq Tryd.underlying26 rfl (by rw [vals_size, hb.len]; kernel_rfl) ?_)
    | (refine wpList_load_row rfl 26 (.tmp 2) rfl (S) rfl _ _ _ _ qa1.eq Tryd.underlying26 rfl (by rw [vals_size, ha.len]; kernel_rfl) ?_)
    | (have hq0 := hb0
       clear hq0
       go_at_call 8
       refine (awake_c _ (HD.out _ hb0)).mono ?_
       rintro e w1 ⟨rfl, hq⟩
       have qa1 := qa0.keep hq
       have qb1 := qb0.keep hq
       have hb1 := hb0.trans (hq.mono (HSS.out _ hb0))
       clear hq hb0 qa0 qb0))
  refine wp_reads 17 0 w5.heap.size (by kernel_rfl) (by kernel_rfl) (by rfl) (by kernel_rfl) (fun _ _ d _ _ h => by cases d <;> exact h) ?_
  simp only [List.take_succ_cons, List.take_zero]
  repeat ((first
    | refine take_eql_t (by rfl) (by rfl) (by rfl) (by rfl) eqok2 gd2 (Nm.len (n := 12) (by with_reducible first | exact Nm.fe _ | exact Nm.F2 _ | assumption | exact nm_one | exact nm_Z6 | (refine Nm.seg (m := 12) ?_ (by decide); assumption) | exact Nm.seg (m := 12) (Nm.F2 _) (by decide) | exact Nm.app2 (.fe _) (.fe _) | exact nm_rep | exact nm_Z12 | exact nm_two | (refine Nm.app2 ?_ nm_Z6; assumption) | exact Nm.app2 (.fe _) nm_Z6 | exact Nm.app2 nm_rep nm_one | exact ⟨rfl, words_of _ (by decide)⟩ | fail)) (Nm.len (n := 12) (by with_reducible first | exact Nm.fe _ | exact Nm.F2 _ | assumption | exact nm_one | exact nm_Z6 | (refine Nm.seg (m := 12) ?_ (by decide); assumption) | exact Nm.seg (m := 12) (Nm.F2 _) (by decide) | exact Nm.app2 (.fe _) (.fe _) | exact nm_rep | exact nm_Z12 | exact nm_two | (refine Nm.app2 ?_ nm_Z6; assumption) | exact Nm.app2 (.fe _) nm_Z6 | exact Nm.app2 nm_rep nm_one | exact ⟨rfl, words_of _ (by decide)⟩ | fail)) (by with_reducible first | rfl) ?_
    | refine take_neq_t (by rfl) (by rfl) (by rfl) (by rfl) eqok2 gd2 (Nm.len (n := 12) (by with_reducible first | exact Nm.fe _ | exact Nm.F2 _ | assumption | exact nm_one | exact nm_Z6 | (refine Nm.seg (m := 12) ?_ (by decide); assumption) | exact Nm.seg (m := 12) (Nm.F2 _) (by decide) | exact Nm.app2 (.fe _) (.fe _) | exact nm_rep | exact nm_Z12 | exact nm_two | (refine Nm.app2 ?_ nm_Z6; assumption) | exact Nm.app2 (.fe _) nm_Z6 | exact Nm.app2 nm_rep nm_one | exact ⟨rfl, words_of _ (by decide)⟩ | fail)) (Nm.len (n := 12) (by with_reducible first | exact Nm.fe _ | exact Nm.F2 _ | assumption | exact nm_one | exact nm_Z6 | (refine Nm.seg (m := 12) ?_ (by decide); assumption) | exact Nm.seg (m := 12) (Nm.F2 _) (by decide) | exact Nm.app2 (.fe _) (.fe _) | exact nm_rep | exact nm_Z12 | exact nm_two | (refine Nm.app2 ?_ nm_Z6; assumption) | exact Nm.app2 (.fe _) nm_Z6 | exact Nm.app2 nm_rep nm_one | exact ⟨rfl, words_of _ (by decide)⟩ | fail)) (by with_reducible first | rfl) ?_
    | refine take_eql_f (by rfl) (by rfl) (by rfl) (by rfl) eqok2 gd2 (Nm.len (n := 12) (by with_reducible first | exact Nm.fe _ | exact Nm.F2 _ | assumption | exact nm_one | exact nm_Z6 | (refine Nm.seg (m := 12) ?_ (by decide); assumption) | exact Nm.seg (m := 12) (Nm.F2 _) (by decide) | exact Nm.app2 (.fe _) (.fe _) | exact nm_rep | exact nm_Z12 | exact nm_two | (refine Nm.app2 ?_ nm_Z6; assumption) | exact Nm.app2 (.fe _) nm_Z6 | exact Nm.app2 nm_rep nm_one | exact ⟨rfl, words_of _ (by decide)⟩ | fail)) (Nm.len (n := 12) (by with_reducible first | exact Nm.fe _ | exact Nm.F2 _ | assumption | exact nm_one | exact nm_Z6 | (refine Nm.seg (m := 12) ?_ (by decide); assumption) | exact Nm.seg (m := 12) (Nm.F2 _) (by decide) | exact Nm.app2 (.fe _) (.fe _) | exact nm_rep | exact nm_Z12 | exact nm_two | (refine Nm.app2 ?_ nm_Z6; assumption) | exact Nm.app2 (.fe _) nm_Z6 | exact Nm.app2 nm_rep nm_one | exact ⟨rfl, words_of _ (by decide)⟩ | fail)) (by with_reducible first | assumption) ?_
    | refine take_neq_f (by rfl) (by rfl) (by rfl) (by rfl) eqok2 gd2 (Nm.len (n := 12) (by with_reducible first | exact Nm.fe _ | exact Nm.F2 _ | assumption | exact nm_one | exact nm_Z6 | (refine Nm.seg (m := 12) ?_ (by decide); assumption) | exact Nm.seg (m := 12) (Nm.F2 _) (by decide) | exact Nm.app2 (.fe _) (.fe _) | exact nm_rep | exact nm_Z12 | exact nm_two | (refine Nm.app2 ?_ nm_Z6; assumption) | exact Nm.app2 (.fe _) nm_Z6 | exact Nm.app2 nm_rep nm_one | exact ⟨rfl, words_of _ (by decide)⟩ | fail)) (Nm.len (n := 12) (by with_reducible first | exact Nm.fe _ | exact Nm.F2 _ | assumption | exact nm_one | exact nm_Z6 | (refine Nm.seg (m := 12) ?_ (by decide); assumption) | exact Nm.seg (m := 12) (Nm.F2 _) (by decide) | exact Nm.app2 (.fe _) (.fe _) | exact nm_rep | exact nm_Z12 | exact nm_two | (refine Nm.app2 ?_ nm_Z6; assumption) | exact Nm.app2 (.fe _) nm_Z6 | exact Nm.app2 nm_rep nm_one | exact ⟨rfl, words_of _ (by decide)⟩ | fail)) (by with_reducible first | assumption) ?_
    | refine take_build (by rfl) (t := 26) (parts := #[]) (by rfl) (cells := vals .u64 [0, 0, 0, 0, 0, 0, 0, 0, 0, 0, 0, 0]) (by kernel_rfl) ?_
    | refine take_load (by rfl) 24 (by rfl) (g := S) (n := 6) (by rfl) (t := 26) (xs := a) (fun w hw => hw.has qa5 (Nat.ne_of_lt qa5.lt)) Tryd.underlying24 rfl (by kernel_rfl) (by rw [ha.len]; decide) ?_
    | refine take_loadw (by rfl) 26 (by rfl) (g := S) (n := 12) (by rfl) (t := 26) (xs := a) (fun w hw => hw.has qa5 (Nat.ne_of_lt qa5.lt)) Tryd.underlying26 rfl (by kernel_rfl) ha.len ?_
    | refine take_load (by rfl) 24 (by rfl) (g := S + 1) (n := 6) (by rfl) (t := 26) (xs := b) (fun w hw => hw.has qb5 (Nat.ne_of_lt qb5.lt)) Tryd.underlying24 rfl (by kernel_rfl) (by rw [hb.len]; decide) ?_
    | refine take_loadw (by rfl) 26 (by rfl) (g := S + 1) (n := 12) (by rfl) (t := 26) (xs := b) (fun w hw => hw.has qb5 (Nat.ne_of_lt qb5.lt)) Tryd.underlying26 rfl (by kernel_rfl) hb.len ?_
    | refine take_load (by rfl) 24 (by rfl) (g := w2.heap.size) (n := 6) (by rfl) (t := 26) (xs := M) (fun w hw => hw.has qm5 (Nat.ne_of_lt qm5.lt)) Tryd.underlying24 rfl (by kernel_rfl) (by rw [LM.out]; decide) ?_
    | refine take_loadw (by rfl) 26 (by rfl) (g := w2.heap.size) (n := 12) (by rfl) (t := 26) (xs := M) (fun w hw => hw.has qm5 (Nat.ne_of_lt qm5.lt)) Tryd.underlying26 rfl (by kernel_rfl) LM.out ?_
    | refine take_load (by rfl) 24 (by rfl) (g := w4.heap.size) (n := 6) (by rfl) (t := 26) (xs := V) (fun w hw => hw.has qx5 (Nat.ne_of_lt qx5.lt)) Tryd.underlying24 rfl (by kernel_rfl) (by rw [LV.out]; decide) ?_
    | refine take_loadw (by rfl) 26 (by rfl) (g := w4.heap.size) (n := 12) (by rfl) (t := 26) (xs := V) (fun w hw => hw.has qx5 (Nat.ne_of_lt qx5.lt)) Tryd.underlying26 rfl (by kernel_rfl) LV.out ?_
    | refine wpTake_cons (.inl ⟨by rfl, fun w hw => (by unfold Oper.quietAt; go_simp; (first | with_reducible refine P3.out _ (HG.out _ (hb5.trans (hw.below (HSS.out _ hb5) (HSS.out _ hb5))))) <;> (with_reducible first | exact Nm.fe _ | exact Nm.F2 _ | assumption | exact nm_one | exact nm_Z6 | (refine Nm.seg (m := 12) ?_ (by decide); assumption) | exact Nm.seg (m := 12) (Nm.F2 _) (by decide) | exact Nm.app2 (.fe _) (.fe _) | exact nm_rep | exact nm_Z12 | exact nm_two | (refine Nm.app2 ?_ nm_Z6; assumption) | exact Nm.app2 (.fe _) nm_Z6 | exact Nm.app2 nm_rep nm_one | exact ⟨rfl, words_of _ (by decide)⟩ | fail))⟩) ?_
    | refine take_skip (by rfl) ?_
    | refine wpTake_cons (Steady.of_yields (Or.inl ⟨by rfl, fun w => (by first | (go_simp; done) | (go_simp; with_reducible rfl))⟩)) ?_); simp only [List.getElem_toArray, List.getElem_cons_zero, List.getElem_cons_succ, Act.put, List.setIfInBounds_toArray, List.set_cons_zero, List.set_cons_succ])
  refine wpTake_nil ?_
  refine wpAnyU_end (by kernel_rfl) (fun w6 hq0 => ?_)
  have hq := (drawn_below w5).trans hq0
  have qa6 := qa5.keep hq
  have qb6 := qb5.keep hq
  have qm6 := qm5.keep hq
  have qx6 := qx5.keep hq
  have hb6 := hb5.trans (hq.mono (HSS.out _ hb5))
  clear hq0 hq hb5 qa5 qb5 qm5 qx5
  go_wp2_with (first
    | (refine wpList_buildTo (by rfl) 26 #[] (by rfl) (some 36) (by rfl) (vals .u64 [0, 0, 0, 0, 0, 0, 0, 0, 0, 0, 0, 0]) (by kernel_rfl) ?_)
    | (refine wpList_load_row rfl 26 (.tmp 6) rfl (w2.heap.size) rfl _ _ _ _ qm6.eq Tryd.underlying26 rfl (by rw [vals_size, LM.out]; kernel_rfl) ?_))
  go_ret
  exact ⟨rfl, hb6⟩

set_option maxRecDepth 100000 in
set_option maxHeartbeats 4000000 in
theorem products_00 (a : List Int) (ha : Nm 12 a) (b : List Int) (hb : Nm 12 b) (w : World) (hG : GlobD w) (hz : ¬ Z2 (gm (v2 a) (v2 b))) (h1 : gsq (v2 a) = false) (h2 : gsq (v2 b) = false) : Calls Tryd.prog 6 #[.agg (vals .u64 a), .agg (vals .u64 b)] w fun e w' => e = .returned (.bool true) ∧ Below w.heap.size w w' := by
  obtain ⟨M, hM⟩ : ∃ o, F2 (gm (v2 a) (v2 b)) = o := ⟨_, rfl⟩
  have nM : Nm 12 M := hM ▸ .F2 _
  have LM : Keep (M.length = 12) := ⟨nM.len⟩
  have hm : Fp2.E2 (gm (v2 a) (v2 b)) (v2 M) := by rw [← hM]; exact (v2_F2 _).symm
  have hs : gsq (v2 M) = true := by
    rw [← gsq_congr hm]
    rw [gsq_gm hz, h1, h2]
    rfl
  obtain ⟨V, hV⟩ : ∃ o, root2 (v2 M) = o := ⟨_, rfl⟩
  have nV : Nm 12 V := hV ▸ (root2_nm _)
  have LV : Keep (V.length = 12) := ⟨nV.len⟩
  have P1 : Keep (∀ x : World, Glob x → Calls Tryd.prog 16 #[.agg (vals .u64 a), .agg (vals .u64 b)] x fun e x' => e = .returned (.agg (vals .u64 M)) ∧ Below x.heap.size x x') := ⟨fun x hG => by
    have h9 := lMul2 a ha b hb x hG
    rwa [hM] at h9⟩
  have P2 : Keep (∀ x : World, GlobD x → Calls Tryd.prog 9 #[.agg (vals .u64 M)] x fun e x' => e = .returned (.tuple #[.agg (vals .u64 V), .bool true]) ∧ Below x.heap.size x x') := ⟨fun x hG => by
    have h9 := lSq_yes M nM hs x hG
    rwa [hV] at h9⟩
  have hr : F2 (gm (v2 V) (v2 V)) = M := by
    rw [← hV, root2_two hs]
    exact (F2_eq hm.symm).trans hM
  have P3 : Keep (∀ x : World, Glob x → Calls Tryd.prog 16 #[.agg (vals .u64 V), .agg (vals .u64 V)] x fun e x' => e = .returned (.agg (vals .u64 M)) ∧ Below x.heap.size x x') := ⟨fun x hG => by
    have h9 := lMul2 V nV V nV x hG
    rwa [hr] at h9⟩
  have P4 : Keep (∀ x : World, GlobD x → Calls Tryd.prog 11 #[.agg (vals .u64 a)] x fun e x' => e = .returned (.bool false) ∧ Below x.heap.size x x') := ⟨fun x hG => by
    have h9 := lIs a ha x hG
    rwa [h1] at h9⟩
  have P5 : Keep (∀ x : World, GlobD x → Calls Tryd.prog 11 #[.agg (vals .u64 b)] x fun e x' => e = .returned (.bool false) ∧ Below x.heap.size x x') := ⟨fun x hG => by
    have h9 := lIs b hb x hG
    rwa [h2] at h9⟩
  have hE : Keep (M ≠ [0, 0, 0, 0, 0, 0, 0, 0, 0, 0, 0, 0]) := ⟨by rw [← hM]; exact fun h0 => hz ((F2_zero _).1 h0)⟩
  have E1 := neq12 (m := [0, 0, 0, 0, 0, 0, 0, 0, 0, 0, 0, 0]) nM.len rfl hE.out
  have hgd := gd2
  obtain ⟨S, hS⟩ : ∃ S, w.heap.size = S := ⟨_, rfl⟩
  have qa0 : Has ((w.alloc (.cells (vals .u64 a) 26)).alloc (.cells (vals .u64 b) 26)) (S) 26 (vals .u64 a) := ((Has.new' _ hS.symm _ _).alloc _)
  have qb0 : Has ((w.alloc (.cells (vals .u64 a) 26)).alloc (.cells (vals .u64 b) 26)) (S + 1) 26 (vals .u64 b) := (Has.new' _ (by simp only [World.size_alloc, hS]) _ _)
  have hb0 : Below S w ((w.alloc (.cells (vals .u64 a) 26)).alloc (.cells (vals .u64 b) 26)) := by rw [← hS]; exact (((Below.refl _ _).alloc (Nat.le_refl _) _).alloc (by simp <;> omega) _)
  have hsz0 : ((w.alloc (.cells (vals .u64 a) 26)).alloc (.cells (vals .u64 b) 26)).heap.size = S + 2 := by simp only [World.size_alloc, hS]
  have HSS : Keep (∀ x : World, Below S w x → S ≤ x.heap.size) := ⟨fun x hb => Nat.le_trans (by omega) hb.size⟩
  have HD : Keep (∀ x : World, Below S w x → GlobD x) := ⟨fun x hb => hG.keep (by rw [hS]; exact hb)⟩
  have HG : Keep (∀ x : World, Below S w x → Glob x) := ⟨fun x hb => (HD.out x hb).toGlob⟩
  clear hG
  clear hz hM hm hs hV hr h1 h2
  rw [hS]
  go_enter Tryd.func6, Tryd.ntmps6
  go_wp2_with (first
    | (refine store_abs2 (by rfl) 26 (.tmp 7) (.tmp 16) (by rfl) (by rfl) (w4.heap.size) (vals .u64 V) (by rfl) (by rfl) 26 (vals .u64 Fp2.Z12) (Has.new' _ rfl _ _) (by rw [vals_size, LV.out]; kernel_rfl) (by first | (rw [vals_size, vals_size, LV.out]; rfl) | rfl) vals_one ?_
       intro w5 qx5 hkeep hbg
       have hbe := ((Below.refl w4.heap.size w4).alloc (Nat.le_refl _) (.cells (vals .u64 Fp2.Z12) 26)).trans hbg
       have Nax := qa4.lt
       have qa5 := qa4.keep hbe
       have Nbx := qb4.lt
       have qb5 := qb4.keep hbe
       have Nmx := qm4.lt
       have qm5 := qm4.keep hbe
       have Mx : S ≤ w4.heap.size := HSS.out _ hb4
       have hb5 := hb4.trans (hbe.mono (HSS.out _ hb4))
       clear hkeep hbg hbe hb4 qa4 qb4 qm4)
    | (have hq0 := hb3
       clear hq0
       go_at_call 9
       refine (P2.out _ (HD.out _ hb3)).mono ?_
       rintro e w4 ⟨rfl, hq⟩
       have qa4 := qa3.keep hq
       have qb4 := qb3.keep hq
       have qm4 := qm3.keep hq
       have hb4 := hb3.trans (hq.mono (HSS.out _ hb3))
       clear hq hb3 qa3 qb3 qm3)
    | (refine wpList_load_row rfl 26 (.tmp 6) rfl (w2.heap.size) rfl _ _ _ _ qm3.eq Tryd.underlying26 rfl (by rw [vals_size, LM.out]; kernel_rfl) ?_)
    | (refine store_abs2 (by rfl) 26 (.tmp 6) (.tmp 12) (by rfl) (by rfl) (w2.heap.size) (vals .u64 M) (by rfl) (by rfl) 26 (vals .u64 Fp2.Z12) (Has.new' _ rfl _ _) (by rw [vals_size, LM.out]; kernel_rfl) (by first | (rw [vals_size, vals_size, LM.out]; rfl) | rfl) vals_one ?_
       intro w3 qm3 hkeep hbg
       have hbe := ((Below.refl w2.heap.size w2).alloc (Nat.le_refl _) (.cells (vals .u64 Fp2.Z12) 26)).trans hbg
       have Nam := qa2.lt
       have qa3 := qa2.keep hbe
       have Nbm := qb2.lt
       have qb3 := qb2.keep hbe
       have Mm : S ≤ w2.heap.size := HSS.out _ hb2
       have hb3 := hb2.trans (hbe.mono (HSS.out _ hb2))
       clear hkeep hbg hbe hb2 qa2 qb2)
    | (have hq0 := hb1
       clear hq0
       go_at_call 16
       refine (P1.out _ (HG.out _ hb1)).mono ?_
       rintro e w2 ⟨rfl, hq⟩
       have qa2 := qa1.keep hq
       have qb2 := qb1.keep hq
       have hb2 := hb1.trans (hq.mono (HSS.out _ hb1))
       clear hq hb1 qa1 qb1)
    | (refine wpList_load_row rfl 26 (.tmp 3) rfl (S + 1) rfl _ _ _ _ qb1.eq Tryd.underlying26 rfl (by rw [vals_size, hb.len]; kernel_rfl) ?_)
    | (refine wpList_load_row rfl 26 (.tmp 2) rfl (S) rfl _ _ _ _ qa1.eq Tryd.underlying26 rfl (by rw [vals_size, ha.len]; kernel_rfl) ?_)
    | (have hq0 := hb0
       clear hq0
       go_at_call 8
       refine (awake_c _ (HD.out _ hb0)).mono ?_
       rintro e w1 ⟨rfl, hq⟩
       have qa1 := qa0.keep hq
       have qb1 := qb0.keep hq
       have hb1 := hb0.trans (hq.mono (HSS.out _ hb0))
       clear hq hb0 qa0 qb0))
  refine wp_reads 17 0 w5.heap.size (by kernel_rfl) (by kernel_rfl) (by rfl) (by kernel_rfl) (fun _ _ d _ _ h => by cases d <;> exact h) ?_
  simp only [List.take_succ_cons, List.take_zero]
  repeat ((first
    | refine take_eql_t (by rfl) (by rfl) (by rfl) (by rfl) eqok2 gd2 (Nm.len (n := 12) (by with_reducible first | exact Nm.fe _ | exact Nm.F2 _ | assumption | exact nm_one | exact nm_Z6 | (refine Nm.seg (m := 12) ?_ (by decide); assumption) | exact Nm.seg (m := 12) (Nm.F2 _) (by decide) | exact Nm.app2 (.fe _) (.fe _) | exact nm_rep | exact nm_Z12 | exact nm_two | (refine Nm.app2 ?_ nm_Z6; assumption) | exact Nm.app2 (.fe _) nm_Z6 | exact Nm.app2 nm_rep nm_one | exact ⟨rfl, words_of _ (by decide)⟩ | fail)) (Nm.len (n := 12) (by with_reducible first | exact Nm.fe _ | exact Nm.F2 _ | assumption | exact nm_one | exact nm_Z6 | (refine Nm.seg (m := 12) ?_ (by decide); assumption) | exact Nm.seg (m := 12) (Nm.F2 _) (by decide) | exact Nm.app2 (.fe _) (.fe _) | exact nm_rep | exact nm_Z12 | exact nm_two | (refine Nm.app2 ?_ nm_Z6; assumption) | exact Nm.app2 (.fe _) nm_Z6 | exact Nm.app2 nm_rep nm_one | exact ⟨rfl, words_of _ (by decide)⟩ | fail)) (by with_reducible first | rfl) ?_
    | refine take_neq_t (by rfl) (by rfl) (by rfl) (by rfl) eqok2 gd2 (Nm.len (n := 12) (by with_reducible first | exact Nm.fe _ | exact Nm.F2 _ | assumption | exact nm_one | exact nm_Z6 | (refine Nm.seg (m := 12) ?_ (by decide); assumption) | exact Nm.seg (m := 12) (Nm.F2 _) (by decide) | exact Nm.app2 (.fe _) (.fe _) | exact nm_rep | exact nm_Z12 | exact nm_two | (refine Nm.app2 ?_ nm_Z6; assumption) | exact Nm.app2 (.fe _) nm_Z6 | exact Nm.app2 nm_rep nm_one | exact ⟨rfl, words_of _ (by decide)⟩ | fail)) (Nm.len (n := 12) (by with_reducible first | exact Nm.fe _ | exact Nm.F2 _ | assumption | exact nm_one | exact nm_Z6 | (refine Nm.seg (m := 12) ?_ (by decide); assumption) | exact Nm.seg (m := 12) (Nm.F2 _) (by decide) | exact Nm.app2 (.fe _) (.fe _) | exact nm_rep | exact nm_Z12 | exact nm_two | (refine Nm.app2 ?_ nm_Z6; assumption) | exact Nm.app2 (.fe _) nm_Z6 | exact Nm.app2 nm_rep nm_one | exact ⟨rfl, words_of _ (by decide)⟩ | fail)) (by with_reducible first | rfl) ?_
    | refine take_eql_f (by rfl) (by rfl) (by rfl) (by rfl) eqok2 gd2 (Nm.len (n := 12) (by with_reducible first | exact Nm.fe _ | exact Nm.F2 _ | assumption | exact nm_one | exact nm_Z6 | (refine Nm.seg (m := 12) ?_ (by decide); assumption) | exact Nm.seg (m := 12) (Nm.F2 _) (by decide) | exact Nm.app2 (.fe _) (.fe _) | exact nm_rep | exact nm_Z12 | exact nm_two | (refine Nm.app2 ?_ nm_Z6; assumption) | exact Nm.app2 (.fe _) nm_Z6 | exact Nm.app2 nm_rep nm_one | exact ⟨rfl, words_of _ (by decide)⟩ | fail)) (Nm.len (n := 12) (by with_reducible first | exact Nm.fe _ | exact Nm.F2 _ | assumption | exact nm_one | exact nm_Z6 | (refine Nm.seg (m := 12) ?_ (by decide); assumption) | exact Nm.seg (m := 12) (Nm.F2 _) (by decide) | exact Nm.app2 (.fe _) (.fe _) | exact nm_rep | exact nm_Z12 | exact nm_two | (refine Nm.app2 ?_ nm_Z6; assumption) | exact Nm.app2 (.fe _) nm_Z6 | exact Nm.app2 nm_rep nm_one | exact ⟨rfl, words_of _ (by decide)⟩ | fail)) (by with_reducible first | assumption) ?_
    | refine take_neq_f (by rfl) (by rfl) (by rfl) (by rfl) eqok2 gd2 (Nm.len (n := 12) (by with_reducible first | exact Nm.fe _ | exact Nm.F2 _ | assumption | exact nm_one | exact nm_Z6 | (refine Nm.seg (m := 12) ?_ (by decide); assumption) | exact Nm.seg (m := 12) (Nm.F2 _) (by decide) | exact Nm.app2 (.fe _) (.fe _) | exact nm_rep | exact nm_Z12 | exact nm_two | (refine Nm.app2 ?_ nm_Z6; assumption) | exact Nm.app2 (.fe _) nm_Z6 | exact Nm.app2 nm_rep nm_one | exact ⟨rfl, words_of _ (by decide)⟩ | fail)) (Nm.len (n := 12) (by with_reducible first | exact Nm.fe _ | exact Nm.F2 _ | assumption | exact nm_one | exact nm_Z6 | (refine Nm.seg (m := 12) ?_ (by decide); assumption) | exact Nm.seg (m := 12) (Nm.F2 _) (by decide) | exact Nm.app2 (.fe _) (.fe _) | exact nm_rep | exact nm_Z12 | exact nm_two | (refine Nm.app2 ?_ nm_Z6; assumption) | exact Nm.app2 (.fe _) nm_Z6 | exact Nm.app2 nm_rep nm_one | exact ⟨rfl, words_of _ (by decide)⟩ | fail)) (by with_reducible first | assumption) ?_
    | refine take_build (by rfl) (t := 26) (parts := #[]) (by rfl) (cells := vals .u64 [0, 0, 0, 0, 0, 0, 0, 0, 0, 0, 0, 0]) (by kernel_rfl) ?_
    | refine take_load (by rfl) 24 (by rfl) (g := S) (n := 6) (by rfl) (t := 26) (xs := a) (fun w hw => hw.has qa5 (Nat.ne_of_lt qa5.lt)) Tryd.underlying24 rfl (by kernel_rfl) (by rw [ha.len]; decide) ?_
    | refine take_loadw (by rfl) 26 (by rfl) (g := S) (n := 12) (by rfl) (t := 26) (xs := a) (fun w hw => hw.has qa5 (Nat.ne_of_lt qa5.lt)) Tryd.underlying26 rfl (by kernel_rfl) ha.len ?_
    | refine take_load (by rfl) 24 (by rfl) (g := S + 1) (n := 6) (by rfl) (t := 26) (xs := b) (fun w hw => hw.has qb5 (Nat.ne_of_lt qb5.lt)) Tryd.underlying24 rfl (by kernel_rfl) (by rw [hb.len]; decide) ?_
    | refine take_loadw (by rfl) 26 (by rfl) (g := S + 1) (n := 12) (by rfl) (t := 26) (xs := b) (fun w hw => hw.has qb5 (Nat.ne_of_lt qb5.lt)) Tryd.underlying26 rfl (by kernel_rfl) hb.len ?_
    | refine take_load (by rfl) 24 (by rfl) (g := w2.heap.size) (n := 6) (by rfl) (t := 26) (xs := M) (fun w hw => hw.has qm5 (Nat.ne_of_lt qm5.lt)) Tryd.underlying24 rfl (by kernel_rfl) (by rw [LM.out]; decide) ?_
    | refine take_loadw (by rfl) 26 (by rfl) (g := w2.heap.size) (n := 12) (by rfl) (t := 26) (xs := M) (fun w hw => hw.has qm5 (Nat.ne_of_lt qm5.lt)) Tryd.underlying26 rfl (by kernel_rfl) LM.out ?_
    | refine take_load (by rfl) 24 (by rfl) (g := w4.heap.size) (n := 6) (by rfl) (t := 26) (xs := V) (fun w hw => hw.has qx5 (Nat.ne_of_lt qx5.lt)) Tryd.underlying24 rfl (by kernel_rfl) (by rw [LV.out]; decide) ?_
    | refine take_loadw (by rfl) 26 (by rfl) (g := w4.heap.size) (n := 12) (by rfl) (t := 26) (xs := V) (fun w hw => hw.has qx5 (Nat.ne_of_lt qx5.lt)) Tryd.underlying26 rfl (by kernel_rfl) LV.out ?_
    | refine wpTake_cons (.inl ⟨by rfl, fun w hw => (by unfold Oper.quietAt; go_simp; (first | with_reducible refine P3.out _ (HG.out _ (hb5.trans (hw.below (HSS.out _ hb5) (HSS.out _ hb5))))) <;> (with_reducible first | exact Nm.fe _ | exact Nm.F2 _ | assumption | exact nm_one | exact nm_Z6 | (refine Nm.seg (m := 12) ?_ (by decide); assumption) | exact Nm.seg (m := 12) (Nm.F2 _) (by decide) | exact Nm.app2 (.fe _) (.fe _) | exact nm_rep | exact nm_Z12 | exact nm_two | (refine Nm.app2 ?_ nm_Z6; assumption) | exact Nm.app2 (.fe _) nm_Z6 | exact Nm.app2 nm_rep nm_one | exact ⟨rfl, words_of _ (by decide)⟩ | fail))⟩) ?_
    | refine take_skip (by rfl) ?_
    | refine wpTake_cons (Steady.of_yields (Or.inl ⟨by rfl, fun w => (by first | (go_simp; done) | (go_simp; with_reducible rfl))⟩)) ?_); simp only [List.getElem_toArray, List.getElem_cons_zero, List.getElem_cons_succ, Act.put, List.setIfInBounds_toArray, List.set_cons_zero, List.set_cons_succ])
  refine wpTake_nil ?_
  refine wpAnyU_end (by kernel_rfl) (fun w6 hq0 => ?_)
  have hq := (drawn_below w5).trans hq0
  have qa6 := qa5.keep hq
  have qb6 := qb5.keep hq
  have qm6 := qm5.keep hq
  have qx6 := qx5.keep hq
  have hb6 := hb5.trans (hq.mono (HSS.out _ hb5))
  clear hq0 hq hb5 qa5 qb5 qm5 qx5
  go_wp2_with (first
    | (refine wpList_buildTo (by rfl) 26 #[] (by rfl) (some 36) (by rfl) (vals .u64 [0, 0, 0, 0, 0, 0, 0, 0, 0, 0, 0, 0]) (by kernel_rfl) ?_)
    | (refine wpList_load_row rfl 26 (.tmp 6) rfl (w2.heap.size) rfl _ _ _ _ qm6.eq Tryd.underlying26 rfl (by rw [vals_size, LM.out]; kernel_rfl) ?_))
  refine wp_reads 11 0 w6.heap.size (by kernel_rfl) (by kernel_rfl) (by rfl) (by kernel_rfl) (fun _ _ d _ _ h => by cases d <;> exact h) ?_
  simp only [List.take_succ_cons, List.take_zero]
  repeat ((first
    | refine take_eql_t (by rfl) (by rfl) (by rfl) (by rfl) eqok2 gd2 (Nm.len (n := 12) (by with_reducible first | exact Nm.fe _ | exact Nm.F2 _ | assumption | exact nm_one | exact nm_Z6 | (refine Nm.seg (m := 12) ?_ (by decide); assumption) | exact Nm.seg (m := 12) (Nm.F2 _) (by decide) | exact Nm.app2 (.fe _) (.fe _) | exact nm_rep | exact nm_Z12 | exact nm_two | (refine Nm.app2 ?_ nm_Z6; assumption) | exact Nm.app2 (.fe _) nm_Z6 | exact Nm.app2 nm_rep nm_one | exact ⟨rfl, words_of _ (by decide)⟩ | fail)) (Nm.len (n := 12) (by with_reducible first | exact Nm.fe _ | exact Nm.F2 _ | assumption | exact nm_one | exact nm_Z6 | (refine Nm.seg (m := 12) ?_ (by decide); assumption) | exact Nm.seg (m := 12) (Nm.F2 _) (by decide) | exact Nm.app2 (.fe _) (.fe _) | exact nm_rep | exact nm_Z12 | exact nm_two | (refine Nm.app2 ?_ nm_Z6; assumption) | exact Nm.app2 (.fe _) nm_Z6 | exact Nm.app2 nm_rep nm_one | exact ⟨rfl, words_of _ (by decide)⟩ | fail)) (by with_reducible first | rfl) ?_
    | refine take_neq_t (by rfl) (by rfl) (by rfl) (by rfl) eqok2 gd2 (Nm.len (n := 12) (by with_reducible first | exact Nm.fe _ | exact Nm.F2 _ | assumption | exact nm_one | exact nm_Z6 | (refine Nm.seg (m := 12) ?_ (by decide); assumption) | exact Nm.seg (m := 12) (Nm.F2 _) (by decide) | exact Nm.app2 (.fe _) (.fe _) | exact nm_rep | exact nm_Z12 | exact nm_two | (refine Nm.app2 ?_ nm_Z6; assumption) | exact Nm.app2 (.fe _) nm_Z6 | exact Nm.app2 nm_rep nm_one | exact ⟨rfl, words_of _ (by decide)⟩ | fail)) (Nm.len (n := 12) (by with_reducible first | exact Nm.fe _ | exact Nm.F2 _ | assumption | exact nm_one | exact nm_Z6 | (refine Nm.seg (m := 12) ?_ (by decide); assumption) | exact Nm.seg (m := 12) (Nm.F2 _) (by decide) | exact Nm.app2 (.fe _) (.fe _) | exact nm_rep | exact nm_Z12 | exact nm_two | (refine Nm.app2 ?_ nm_Z6; assumption) | exact Nm.app2 (.fe _) nm_Z6 | exact Nm.app2 nm_rep nm_one | exact ⟨rfl, words_of _ (by decide)⟩ | fail)) (by with_reducible first | rfl) ?_
    | refine take_eql_f (by rfl) (by rfl) (by rfl) (by rfl) eqok2 gd2 (Nm.len (n := 12) (by with_reducible first | exact Nm.fe _ | exact Nm.F2 _ | assumption | exact nm_one | exact nm_Z6 | (refine Nm.seg (m := 12) ?_ (by decide); assumption) | exact Nm.seg (m := 12) (Nm.F2 _) (by decide) | exact Nm.app2 (.fe _) (.fe _) | exact nm_rep | exact nm_Z12 | exact nm_two | (refine Nm.app2 ?_ nm_Z6; assumption) | exact Nm.app2 (.fe _) nm_Z6 | exact Nm.app2 nm_rep nm_one | exact ⟨rfl, words_of _ (by decide)⟩ | fail)) (Nm.len (n := 12) (by with_reducible first | exact Nm.fe _ | exact Nm.F2 _ | assumption | exact nm_one | exact nm_Z6 | (refine Nm.seg (m := 12) ?_ (by decide); assumption) | exact Nm.seg (m := 12) (Nm.F2 _) (by decide) | exact Nm.app2 (.fe _) (.fe _) | exact nm_rep | exact nm_Z12 | exact nm_two | (refine Nm.app2 ?_ nm_Z6; assumption) | exact Nm.app2 (.fe _) nm_Z6 | exact Nm.app2 nm_rep nm_one | exact ⟨rfl, words_of _ (by decide)⟩ | fail)) (by with_reducible first | assumption) ?_
    | refine take_neq_f (by rfl) (by rfl) (by rfl) (by rfl) eqok2 gd2 (Nm.len (n := 12) (by with_reducible first | exact Nm.fe _ | exact Nm.F2 _ | assumption | exact nm_one | exact nm_Z6 | (refine Nm.seg (m := 12) ?_ (by decide); assumption) | exact Nm.seg (m := 12) (Nm.F2 _) (by decide) | exact Nm.app2 (.fe _) (.fe _) | exact nm_rep | exact nm_Z12 | exact nm_two | (refine Nm.app2 ?_ nm_Z6; assumption) | exact Nm.app2 (.fe _) nm_Z6 | exact Nm.app2 nm_rep nm_one | exact ⟨rfl, words_of _ (by decide)⟩ | fail)) (Nm.len (n := 12) (by with_reducible first | exact Nm.fe _ | exact Nm.F2 _ | assumption | exact nm_one | exact nm_Z6 | (refine Nm.seg (m := 12) ?_ (by decide); assumption) | exact Nm.seg (m := 12) (Nm.F2 _) (by decide) | exact Nm.app2 (.fe _) (.fe _) | exact nm_rep | exact nm_Z12 | exact nm_two | (refine Nm.app2 ?_ nm_Z6; assumption) | exact Nm.app2 (.fe _) nm_Z6 | exact Nm.app2 nm_rep nm_one | exact ⟨rfl, words_of _ (by decide)⟩ | fail)) (by with_reducible first | assumption) ?_
    | refine take_load (by rfl) 24 (by rfl) (g := S) (n := 6) (by rfl) (t := 26) (xs := a) (fun w hw => hw.has qa6 (Nat.ne_of_lt qa6.lt)) Tryd.underlying24 rfl (by kernel_rfl) (by rw [ha.len]; decide) ?_
    | refine take_loadw (by rfl) 26 (by rfl) (g := S) (n := 12) (by rfl) (t := 26) (xs := a) (fun w hw => hw.has qa6 (Nat.ne_of_lt qa6.lt)) Tryd.underlying26 rfl (by kernel_rfl) ha.len ?_
    | refine take_load (by rfl) 24 (by rfl) (g := S + 1) (n := 6) (by rfl) (t := 26) (xs := b) (fun w hw => hw.has qb6 (Nat.ne_of_lt qb6.lt)) Tryd.underlying24 rfl (by kernel_rfl) (by rw [hb.len]; decide) ?_
    | refine take_loadw (by rfl) 26 (by rfl) (g := S + 1) (n := 12) (by rfl) (t := 26) (xs := b) (fun w hw => hw.has qb6 (Nat.ne_of_lt qb6.lt)) Tryd.underlying26 rfl (by kernel_rfl) hb.len ?_
    | refine take_load (by rfl) 24 (by rfl) (g := w2.heap.size) (n := 6) (by rfl) (t := 26) (xs := M) (fun w hw => hw.has qm6 (Nat.ne_of_lt qm6.lt)) Tryd.underlying24 rfl (by kernel_rfl) (by rw [LM.out]; decide) ?_
    | refine take_loadw (by rfl) 26 (by rfl) (g := w2.heap.size) (n := 12) (by rfl) (t := 26) (xs := M) (fun w hw => hw.has qm6 (Nat.ne_of_lt qm6.lt)) Tryd.underlying26 rfl (by kernel_rfl) LM.out ?_
    | refine take_load (by rfl) 24 (by rfl) (g := w4.heap.size) (n := 6) (by rfl) (t := 26) (xs := V) (fun w hw => hw.has qx6 (Nat.ne_of_lt qx6.lt)) Tryd.underlying24 rfl (by kernel_rfl) (by rw [LV.out]; decide) ?_
    | refine take_loadw (by rfl) 26 (by rfl) (g := w4.heap.size) (n := 12) (by rfl) (t := 26) (xs := V) (fun w hw => hw.has qx6 (Nat.ne_of_lt qx6.lt)) Tryd.underlying26 rfl (by kernel_rfl) LV.out ?_
    | refine wpTake_cons (.inl ⟨by rfl, fun w hw => (by unfold Oper.quietAt; go_simp; (first | with_reducible refine P4.out _ (HD.out _ (hb6.trans (hw.below (HSS.out _ hb6) (HSS.out _ hb6)))) | with_reducible refine P5.out _ (HD.out _ (hb6.trans (hw.below (HSS.out _ hb6) (HSS.out _ hb6))))) <;> (with_reducible first | exact Nm.fe _ | exact Nm.F2 _ | assumption | exact nm_one | exact nm_Z6 | (refine Nm.seg (m := 12) ?_ (by decide); assumption) | exact Nm.seg (m := 12) (Nm.F2 _) (by decide) | exact Nm.app2 (.fe _) (.fe _) | exact nm_rep | exact nm_Z12 | exact nm_two | (refine Nm.app2 ?_ nm_Z6; assumption) | exact Nm.app2 (.fe _) nm_Z6 | exact Nm.app2 nm_rep nm_one | exact ⟨rfl, words_of _ (by decide)⟩ | fail))⟩) ?_
    | refine take_skip (by rfl) ?_
    | refine wpTake_cons (Steady.of_yields (Or.inl ⟨by rfl, fun w => (by first | (go_simp; done) | (go_simp; with_reducible rfl))⟩)) ?_); simp only [List.getElem_toArray, List.getElem_cons_zero, List.getElem_cons_succ, Act.put, List.setIfInBounds_toArray, List.set_cons_zero, List.set_cons_succ])
  refine wpTake_nil ?_
  refine wpAnyU_end (by kernel_rfl) (fun w7 hq0 => ?_)
  have hq := (drawn_below w6).trans hq0
  have qa7 := qa6.keep hq
  have qb7 := qb6.keep hq
  have qm7 := qm6.keep hq
  have qx7 := qx6.keep hq
  have hb7 := hb6.trans (hq.mono (HSS.out _ hb6))
  clear hq0 hq hb6 qa6 qb6 qm6 qx6
  go_wp2
  go_ret
  exact ⟨rfl, hb7⟩

set_option maxRecDepth 100000 in
set_option maxHeartbeats 4000000 in
theorem products_01 (a : List Int) (ha : Nm 12 a) (b : List Int) (hb : Nm 12 b) (w : World) (hG : GlobD w) (hz : ¬ Z2 (gm (v2 a) (v2 b))) (h1 : gsq (v2 a) = false) (h2 : gsq (v2 b) = true) : Calls Tryd.prog 6 #[.agg (vals .u64 a), .agg (vals .u64 b)] w fun e w' => e = .returned (.bool true) ∧ Below w.heap.size w w' := by
  obtain ⟨M, hM⟩ : ∃ o, F2 (gm (v2 a) (v2 b)) = o := ⟨_, rfl⟩
  have nM : Nm 12 M := hM ▸ .F2 _
  have LM : Keep (M.length = 12) := ⟨nM.len⟩
  have hm : Fp2.E2 (gm (v2 a) (v2 b)) (v2 M) := by rw [← hM]; exact (v2_F2 _).symm
  have hs : gsq (v2 M) = false := by
    rw [← gsq_congr hm]
    rw [gsq_gm hz, h1, h2]
    rfl
  obtain ⟨V, hV⟩ : ∃ o, Fp2.Z12 = o := ⟨_, rfl⟩
  have nV : Nm 12 V := hV ▸ (show Nm 12 Fp2.Z12 from nm_Z12)
  have LV : Keep (V.length = 12) := ⟨nV.len⟩
  have P1 : Keep (∀ x : World, Glob x → Calls Tryd.prog 16 #[.agg (vals .u64 a), .agg (vals .u64 b)] x fun e x' => e = .returned (.agg (vals .u64 M)) ∧ Below x.heap.size x x') := ⟨fun x hG => by
    have h9 := lMul2 a ha b hb x hG
    rwa [hM] at h9⟩
  have P2 : Keep (∀ x : World, GlobD x → Calls Tryd.prog 9 #[.agg (vals .u64 M)] x fun e x' => e = .returned (.tuple #[.agg (vals .u64 V), .bool false]) ∧ Below x.heap.size x x') := ⟨fun x hG => by
    have h9 := lSq_no M nM hs x hG
    rwa [hV] at h9⟩
  have hv0 : Keep (V = [0, 0, 0, 0, 0, 0, 0, 0, 0, 0, 0, 0]) := ⟨hV.symm⟩
  have P4 : Keep (∀ x : World, GlobD x → Calls Tryd.prog 11 #[.agg (vals .u64 a)] x fun e x' => e = .returned (.bool false) ∧ Below x.heap.size x x') := ⟨fun x hG => by
    have h9 := lIs a ha x hG
    rwa [h1] at h9⟩
  have P5 : Keep (∀ x : World, GlobD x → Calls Tryd.prog 11 #[.agg (vals .u64 b)] x fun e x' => e = .returned (.bool true) ∧ Below x.heap.size x x') := ⟨fun x hG => by
    have h9 := lIs b hb x hG
    rwa [h2] at h9⟩
  have hE : Keep (M ≠ [0, 0, 0, 0, 0, 0, 0, 0, 0, 0, 0, 0]) := ⟨by rw [← hM]; exact fun h0 => hz ((F2_zero _).1 h0)⟩
  have E1 := neq12 (m := [0, 0, 0, 0, 0, 0, 0, 0, 0, 0, 0, 0]) nM.len rfl hE.out
  have hgd := gd2
  obtain ⟨S, hS⟩ : ∃ S, w.heap.size = S := ⟨_, rfl⟩
  have qa0 : Has ((w.alloc (.cells (vals .u64 a) 26)).alloc (.cells (vals .u64 b) 26)) (S) 26 (vals .u64 a) := ((Has.new' _ hS.symm _ _).alloc _)
  have qb0 : Has ((w.alloc (.cells (vals .u64 a) 26)).alloc (.cells (vals .u64 b) 26)) (S + 1) 26 (vals .u64 b) := (Has.new' _ (by simp only [World.size_alloc, hS]) _ _)
  have hb0 : Below S w ((w.alloc (.cells (vals .u64 a) 26)).alloc (.cells (vals .u64 b) 26)) := by rw [← hS]; exact (((Below.refl _ _).alloc (Nat.le_refl _) _).alloc (by simp <;> omega) _)
  have hsz0 : ((w.alloc (.cells (vals .u64 a) 26)).alloc (.cells (vals .u64 b) 26)).heap.size = S + 2 := by simp only [World.size_alloc, hS]
  have HSS : Keep (∀ x : World, Below S w x → S ≤ x.heap.size) := ⟨fun x hb => Nat.le_trans (by omega) hb.size⟩
  have HD : Keep (∀ x : World, Below S w x → GlobD x) := ⟨fun x hb => hG.keep (by rw [hS]; exact hb)⟩
  have HG : Keep (∀ x : World, Below S w x → Glob x) := ⟨fun x hb => (HD.out x hb).toGlob⟩
  clear hG
  clear hz hM hm hs hV h1 h2
  rw [hS]
  go_enter Tryd.func6, Tryd.ntmps6
  go_wp2_with (first
    | (refine store_abs2 (by rfl) 26 (.tmp 7) (.tmp 16) (by rfl) (by rfl) (w4.heap.size) (vals .u64 V) (by rfl) (by rfl) 26 (vals .u64 Fp2.Z12) (Has.new' _ rfl _ _) (by rw [vals_size, LV.out]; kernel_rfl) (by first | (rw [vals_size, vals_size, LV.out]; rfl) | rfl) vals_one ?_
       intro w5 qx5 hkeep hbg
       have hbe := ((Below.refl w4.heap.size w4).alloc (Nat.le_refl _) (.cells (vals .u64 Fp2.Z12) 26)).trans hbg
       have Nax := qa4.lt
       have qa5 := qa4.keep hbe
       have Nbx := qb4.lt
       have qb5 := qb4.keep hbe
       have Nmx := qm4.lt
       have qm5 := qm4.keep hbe
       have Mx : S ≤ w4.heap.size := HSS.out _ hb4
       have hb5 := hb4.trans (hbe.mono (HSS.out _ hb4))
       clear hkeep hbg hbe hb4 qa4 qb4 qm4)
    | (have hq0 := hb3
       clear hq0
       go_at_call 9
       refine (P2.out _ (HD.out _ hb3)).mono ?_
       rintro e w4 ⟨rfl, hq⟩
       have qa4 := qa3.keep hq
       have qb4 := qb3.keep hq
       have qm4 := qm3.keep hq
       have hb4 := hb3.trans (hq.mono (HSS.out _ hb3))
       clear hq hb3 qa3 qb3 qm3)
    | (refine wpList_load_row rfl 26 (.tmp 6) rfl (w2.heap.size) rfl _ _ _ _ qm3.eq Tryd.underlying26 rfl (by rw [vals_size, LM.out]; kernel_rfl) ?_)
    | (refine store_abs2 (by rfl) 26 (.tmp 6) (.tmp 12) (by rfl) (by rfl) (w2.heap.size) (vals .u64 M) (by rfl) (by rfl) 26 (vals .u64 Fp2.Z12) (Has.new' _ rfl _ _) (by rw [vals_size, LM.out]; kernel_rfl) (by first | (rw [vals_size, vals_size, LM.out]; rfl) | rfl) vals_one ?_
       intro w3 qm3 hkeep hbg
       have hbe := ((Below.refl w2.heap.size w2).alloc (Nat.le_refl _) (.cells (vals .u64 Fp2.Z12) 26)).trans hbg
       have Nam := qa2.lt
       have qa3 := qa2.keep hbe
       have Nbm := qb2.lt
       have qb3 := qb2.keep hbe
       have Mm : S ≤ w2.heap.size := HSS.out _ hb2
       have hb3 := hb2.trans (hbe.mono (HSS.out _ hb2))
       clear hkeep hbg hbe hb2 qa2 qb2)
    | (have hq0 := hb1
       clear hq0
       go_at_call 16
       refine (P1.out _ (HG.out _ hb1)).mono ?_
       rintro e w2 ⟨rfl, hq⟩
       have qa2 := qa1.keep hq
       have qb2 := qb1.keep hq
       have hb2 := hb1.trans (hq.mono (HSS.out _ hb1))
       clear hq hb1 qa1 qb1)
    | (refine wpList_load_row rfl 26 (.tmp 3) rfl (S + 1) rfl _ _ _ _ qb1.eq Tryd.underlying26 rfl (by rw [vals_size, hb.len]; kernel_rfl) ?_)
    | (refine wpList_load_row rfl 26 (.tmp 2) rfl (S) rfl _ _ _ _ qa1.eq Tryd.underlying26 rfl (by rw [vals_size, ha.len]; kernel_rfl) ?_)
    | (have hq0 := hb0
       clear hq0
       go_at_call 8
       refine (awake_c _ (HD.out _ hb0)).mono ?_
       rintro e w1 ⟨rfl, hq⟩
       have qa1 := qa0.keep hq
       have qb1 := qb0.keep hq
       have hb1 := hb0.trans (hq.mono (HSS.out _ hb0))
       clear hq hb0 qa0 qb0))
  refine wp_reads 17 0 w5.heap.size (by kernel_rfl) (by kernel_rfl) (by rfl) (by kernel_rfl) (fun _ _ d _ _ h => by cases d <;> exact h) ?_
  simp only [List.take_succ_cons, List.take_zero]
  repeat ((first
    | refine take_eql_t (by rfl) (by rfl) (by rfl) (by rfl) eqok2 gd2 (Nm.len (n := 12) (by with_reducible first | exact Nm.fe _ | exact Nm.F2 _ | assumption | exact nm_one | exact nm_Z6 | (refine Nm.seg (m := 12) ?_ (by decide); assumption) | exact Nm.seg (m := 12) (Nm.F2 _) (by decide) | exact Nm.app2 (.fe _) (.fe _) | exact nm_rep | exact nm_Z12 | exact nm_two | (refine Nm.app2 ?_ nm_Z6; assumption) | exact Nm.app2 (.fe _) nm_Z6 | exact Nm.app2 nm_rep nm_one | exact ⟨rfl, words_of _ (by decide)⟩ | fail)) (Nm.len (n := 12) (by with_reducible first | exact Nm.fe _ | exact Nm.F2 _ | assumption | exact nm_one | exact nm_Z6 | (refine Nm.seg (m := 12) ?_ (by decide); assumption) | exact Nm.seg (m := 12) (Nm.F2 _) (by decide) | exact Nm.app2 (.fe _) (.fe _) | exact nm_rep | exact nm_Z12 | exact nm_two | (refine Nm.app2 ?_ nm_Z6; assumption) | exact Nm.app2 (.fe _) nm_Z6 | exact Nm.app2 nm_rep nm_one | exact ⟨rfl, words_of _ (by decide)⟩ | fail)) (by with_reducible first | rfl | exact hv0.out) ?_
    | refine take_neq_t (by rfl) (by rfl) (by rfl) (by rfl) eqok2 gd2 (Nm.len (n := 12) (by with_reducible first | exact Nm.fe _ | exact Nm.F2 _ | assumption | exact nm_one | exact nm_Z6 | (refine Nm.seg (m := 12) ?_ (by decide); assumption) | exact Nm.seg (m := 12) (Nm.F2 _) (by decide) | exact Nm.app2 (.fe _) (.fe _) | exact nm_rep | exact nm_Z12 | exact nm_two | (refine Nm.app2 ?_ nm_Z6; assumption) | exact Nm.app2 (.fe _) nm_Z6 | exact Nm.app2 nm_rep nm_one | exact ⟨rfl, words_of _ (by decide)⟩ | fail)) (Nm.len (n := 12) (by with_reducible first | exact Nm.fe _ | exact Nm.F2 _ | assumption | exact nm_one | exact nm_Z6 | (refine Nm.seg (m := 12) ?_ (by decide); assumption) | exact Nm.seg (m := 12) (Nm.F2 _) (by decide) | exact Nm.app2 (.fe _) (.fe _) | exact nm_rep | exact nm_Z12 | exact nm_two | (refine Nm.app2 ?_ nm_Z6; assumption) | exact Nm.app2 (.fe _) nm_Z6 | exact Nm.app2 nm_rep nm_one | exact ⟨rfl, words_of _ (by decide)⟩ | fail)) (by with_reducible first | rfl | exact hv0.out) ?_
    | refine take_eql_f (by rfl) (by rfl) (by rfl) (by rfl) eqok2 gd2 (Nm.len (n := 12) (by with_reducible first | exact Nm.fe _ | exact Nm.F2 _ | assumption | exact nm_one | exact nm_Z6 | (refine Nm.seg (m := 12) ?_ (by decide); assumption) | exact Nm.seg (m := 12) (Nm.F2 _) (by decide) | exact Nm.app2 (.fe _) (.fe _) | exact nm_rep | exact nm_Z12 | exact nm_two | (refine Nm.app2 ?_ nm_Z6; assumption) | exact Nm.app2 (.fe _) nm_Z6 | exact Nm.app2 nm_rep nm_one | exact ⟨rfl, words_of _ (by decide)⟩ | fail)) (Nm.len (n := 12) (by with_reducible first | exact Nm.fe _ | exact Nm.F2 _ | assumption | exact nm_one | exact nm_Z6 | (refine Nm.seg (m := 12) ?_ (by decide); assumption) | exact Nm.seg (m := 12) (Nm.F2 _) (by decide) | exact Nm.app2 (.fe _) (.fe _) | exact nm_rep | exact nm_Z12 | exact nm_two | (refine Nm.app2 ?_ nm_Z6; assumption) | exact Nm.app2 (.fe _) nm_Z6 | exact Nm.app2 nm_rep nm_one | exact ⟨rfl, words_of _ (by decide)⟩ | fail)) (by with_reducible first | assumption) ?_
    | refine take_neq_f (by rfl) (by rfl) (by rfl) (by rfl) eqok2 gd2 (Nm.len (n := 12) (by with_reducible first | exact Nm.fe _ | exact Nm.F2 _ | assumption | exact nm_one | exact nm_Z6 | (refine Nm.seg (m := 12) ?_ (by decide); assumption) | exact Nm.seg (m := 12) (Nm.F2 _) (by decide) | exact Nm.app2 (.fe _) (.fe _) | exact nm_rep | exact nm_Z12 | exact nm_two | (refine Nm.app2 ?_ nm_Z6; assumption) | exact Nm.app2 (.fe _) nm_Z6 | exact Nm.app2 nm_rep nm_one | exact ⟨rfl, words_of _ (by decide)⟩ | fail)) (Nm.len (n := 12) (by with_reducible first | exact Nm.fe _ | exact Nm.F2 _ | assumption | exact nm_one | exact nm_Z6 | (refine Nm.seg (m := 12) ?_ (by decide); assumption) | exact Nm.seg (m := 12) (Nm.F2 _) (by decide) | exact Nm.app2 (.fe _) (.fe _) | exact nm_rep | exact nm_Z12 | exact nm_two | (refine Nm.app2 ?_ nm_Z6; assumption) | exact Nm.app2 (.fe _) nm_Z6 | exact Nm.app2 nm_rep nm_one | exact ⟨rfl, words_of _ (by decide)⟩ | fail)) (by with_reducible first | assumption) ?_
    | refine take_build (by rfl) (t := 26) (parts := #[]) (by rfl) (cells := vals .u64 [0, 0, 0, 0, 0, 0, 0, 0, 0, 0, 0, 0]) (by kernel_rfl) ?_
    | refine take_load (by rfl) 24 (by rfl) (g := S) (n := 6) (by rfl) (t := 26) (xs := a) (fun w hw => hw.has qa5 (Nat.ne_of_lt qa5.lt)) Tryd.underlying24 rfl (by kernel_rfl) (by rw [ha.len]; decide) ?_
    | refine take_loadw (by rfl) 26 (by rfl) (g := S) (n := 12) (by rfl) (t := 26) (xs := a) (fun w hw => hw.has qa5 (Nat.ne_of_lt qa5.lt)) Tryd.underlying26 rfl (by kernel_rfl) ha.len ?_
    | refine take_load (by rfl) 24 (by rfl) (g := S + 1) (n := 6) (by rfl) (t := 26) (xs := b) (fun w hw => hw.has qb5 (Nat.ne_of_lt qb5.lt)) Tryd.underlying24 rfl (by kernel_rfl) (by rw [hb.len]; decide) ?_
    | refine take_loadw (by rfl) 26 (by rfl) (g := S + 1) (n := 12) (by rfl) (t := 26) (xs := b) (fun w hw => hw.has qb5 (Nat.ne_of_lt qb5.lt)) Tryd.underlying26 rfl (by kernel_rfl) hb.len ?_
    | refine take_load (by rfl) 24 (by rfl) (g := w2.heap.size) (n := 6) (by rfl) (t := 26) (xs := M) (fun w hw => hw.has qm5 (Nat.ne_of_lt qm5.lt)) Tryd.underlying24 rfl (by kernel_rfl) (by rw [LM.out]; decide) ?_
    | refine take_loadw (by rfl) 26 (by rfl) (g := w2.heap.size) (n := 12) (by rfl) (t := 26) (xs := M) (fun w hw => hw.has qm5 (Nat.ne_of_lt qm5.lt)) Tryd.underlying26 rfl (by kernel_rfl) LM.out ?_
    | refine take_load (by rfl) 24 (by rfl) (g := w4.heap.size) (n := 6) (by rfl) (t := 26) (xs := V) (fun w hw => hw.has qx5 (Nat.ne_of_lt qx5.lt)) Tryd.underlying24 rfl (by kernel_rfl) (by rw [LV.out]; decide) ?_
    | refine take_loadw (by rfl) 26 (by rfl) (g := w4.heap.size) (n := 12) (by rfl) (t := 26) (xs := V) (fun w hw => hw.has qx5 (Nat.ne_of_lt qx5.lt)) Tryd.underlying26 rfl (by kernel_rfl) LV.out ?_
    | refine take_skip (by rfl) ?_
    | refine wpTake_cons (Steady.of_yields (Or.inl ⟨by rfl, fun w => (by first | (go_simp; done) | (go_simp; with_reducible rfl))⟩)) ?_); simp only [List.getElem_toArray, List.getElem_cons_zero, List.getElem_cons_succ, Act.put, List.setIfInBounds_toArray, List.set_cons_zero, List.set_cons_succ])
  refine wpTake_nil ?_
  refine wpAnyU_end (by kernel_rfl) (fun w6 hq0 => ?_)
  have hq := (drawn_below w5).trans hq0
  have qa6 := qa5.keep hq
  have qb6 := qb5.keep hq
  have qm6 := qm5.keep hq
  have qx6 := qx5.keep hq
  have hb6 := hb5.trans (hq.mono (HSS.out _ hb5))
  clear hq0 hq hb5 qa5 qb5 qm5 qx5
  go_wp2_with (first
    | (refine wpList_buildTo (by rfl) 26 #[] (by rfl) (some 36) (by rfl) (vals .u64 [0, 0, 0, 0, 0, 0, 0, 0, 0, 0, 0, 0]) (by kernel_rfl) ?_)
    | (refine wpList_load_row rfl 26 (.tmp 6) rfl (w2.heap.size) rfl _ _ _ _ qm6.eq Tryd.underlying26 rfl (by rw [vals_size, LM.out]; kernel_rfl) ?_))
  refine wp_reads 11 0 w6.heap.size (by kernel_rfl) (by kernel_rfl) (by rfl) (by kernel_rfl) (fun _ _ d _ _ h => by cases d <;> exact h) ?_
  simp only [List.take_succ_cons, List.take_zero]
  repeat ((first
    | refine take_eql_t (by rfl) (by rfl) (by rfl) (by rfl) eqok2 gd2 (Nm.len (n := 12) (by with_reducible first | exact Nm.fe _ | exact Nm.F2 _ | assumption | exact nm_one | exact nm_Z6 | (refine Nm.seg (m := 12) ?_ (by decide); assumption) | exact Nm.seg (m := 12) (Nm.F2 _) (by decide) | exact Nm.app2 (.fe _) (.fe _) | exact nm_rep | exact nm_Z12 | exact nm_two | (refine Nm.app2 ?_ nm_Z6; assumption) | exact Nm.app2 (.fe _) nm_Z6 | exact Nm.app2 nm_rep nm_one | exact ⟨rfl, words_of _ (by decide)⟩ | fail)) (Nm.len (n := 12) (by with_reducible first | exact Nm.fe _ | exact Nm.F2 _ | assumption | exact nm_one | exact nm_Z6 | (refine Nm.seg (m := 12) ?_ (by decide); assumption) | exact Nm.seg (m := 12) (Nm.F2 _) (by decide) | exact Nm.app2 (.fe _) (.fe _) | exact nm_rep | exact nm_Z12 | exact nm_two | (refine Nm.app2 ?_ nm_Z6; assumption) | exact Nm.app2 (.fe _) nm_Z6 | exact Nm.app2 nm_rep nm_one | exact ⟨rfl, words_of _ (by decide)⟩ | fail)) (by with_reducible first | rfl) ?_
    | refine take_neq_t (by rfl) (by rfl) (by rfl) (by rfl) eqok2 gd2 (Nm.len (n := 12) (by with_reducible first | exact Nm.fe _ | exact Nm.F2 _ | assumption | exact nm_one | exact nm_Z6 | (refine Nm.seg (m := 12) ?_ (by decide); assumption) | exact Nm.seg (m := 12) (Nm.F2 _) (by decide) | exact Nm.app2 (.fe _) (.fe _) | exact nm_rep | exact nm_Z12 | exact nm_two | (refine Nm.app2 ?_ nm_Z6; assumption) | exact Nm.app2 (.fe _) nm_Z6 | exact Nm.app2 nm_rep nm_one | exact ⟨rfl, words_of _ (by decide)⟩ | fail)) (Nm.len (n := 12) (by with_reducible first | exact Nm.fe _ | exact Nm.F2 _ | assumption | exact nm_one | exact nm_Z6 | (refine Nm.seg (m := 12) ?_ (by decide); assumption) | exact Nm.seg (m := 12) (Nm.F2 _) (by decide) | exact Nm.app2 (.fe _) (.fe _) | exact nm_rep | exact nm_Z12 | exact nm_two | (refine Nm.app2 ?_ nm_Z6; assumption) | exact Nm.app2 (.fe _) nm_Z6 | exact Nm.app2 nm_rep nm_one | exact ⟨rfl, words_of _ (by decide)⟩ | fail)) (by with_reducible first | rfl) ?_
    | refine take_eql_f (by rfl) (by rfl) (by rfl) (by rfl) eqok2 gd2 (Nm.len (n := 12) (by with_reducible first | exact Nm.fe _ | exact Nm.F2 _ | assumption | exact nm_one | exact nm_Z6 | (refine Nm.seg (m := 12) ?_ (by decide); assumption) | exact Nm.seg (m := 12) (Nm.F2 _) (by decide) | exact Nm.app2 (.fe _) (.fe _) | exact nm_rep | exact nm_Z12 | exact nm_two | (refine Nm.app2 ?_ nm_Z6; assumption) | exact Nm.app2 (.fe _) nm_Z6 | exact Nm.app2 nm_rep nm_one | exact ⟨rfl, words_of _ (by decide)⟩ | fail)) (Nm.len (n := 12) (by with_reducible first | exact Nm.fe _ | exact Nm.F2 _ | assumption | exact nm_one | exact nm_Z6 | (refine Nm.seg (m := 12) ?_ (by decide); assumption) | exact Nm.seg (m := 12) (Nm.F2 _) (by decide) | exact Nm.app2 (.fe _) (.fe _) | exact nm_rep | exact nm_Z12 | exact nm_two | (refine Nm.app2 ?_ nm_Z6; assumption) | exact Nm.app2 (.fe _) nm_Z6 | exact Nm.app2 nm_rep nm_one | exact ⟨rfl, words_of _ (by decide)⟩ | fail)) (by with_reducible first | assumption) ?_
    | refine take_neq_f (by rfl) (by rfl) (by rfl) (by rfl) eqok2 gd2 (Nm.len (n := 12) (by with_reducible first | exact Nm.fe _ | exact Nm.F2 _ | assumption | exact nm_one | exact nm_Z6 | (refine Nm.seg (m := 12) ?_ (by decide); assumption) | exact Nm.seg (m := 12) (Nm.F2 _) (by decide) | exact Nm.app2 (.fe _) (.fe _) | exact nm_rep | exact nm_Z12 | exact nm_two | (refine Nm.app2 ?_ nm_Z6; assumption) | exact Nm.app2 (.fe _) nm_Z6 | exact Nm.app2 nm_rep nm_one | exact ⟨rfl, words_of _ (by decide)⟩ | fail)) (Nm.len (n := 12) (by with_reducible first | exact Nm.fe _ | exact Nm.F2 _ | assumption | exact nm_one | exact nm_Z6 | (refine Nm.seg (m := 12) ?_ (by decide); assumption) | exact Nm.seg (m := 12) (Nm.F2 _) (by decide) | exact Nm.app2 (.fe _) (.fe _) | exact nm_rep | exact nm_Z12 | exact nm_two | (refine Nm.app2 ?_ nm_Z6; assumption) | exact Nm.app2 (.fe _) nm_Z6 | exact Nm.app2 nm_rep nm_one | exact ⟨rfl, words_of _ (by decide)⟩ | fail)) (by with_reducible first | assumption) ?_
    | refine take_load (by rfl) 24 (by rfl) (g := S) (n := 6) (by rfl) (t := 26) (xs := a) (fun w hw => hw.has qa6 (Nat.ne_of_lt qa6.lt)) Tryd.underlying24 rfl (by kernel_rfl) (by rw [ha.len]; decide) ?_
    | refine take_loadw (by rfl) 26 (by rfl) (g := S) (n := 12) (by rfl) (t := 26) (xs := a) (fun w hw => hw.has qa6 (Nat.ne_of_lt qa6.lt)) Tryd.underlying26 rfl (by kernel_rfl) ha.len ?_
    | refine take_load (by rfl) 24 (by rfl) (g := S + 1) (n := 6) (by rfl) (t := 26) (xs := b) (fun w hw => hw.has qb6 (Nat.ne_of_lt qb6.lt)) Tryd.underlying24 rfl (by kernel_rfl) (by rw [hb.len]; decide) ?_
    | refine take_loadw (by rfl) 26 (by rfl) (g := S + 1) (n := 12) (by rfl) (t := 26) (xs := b) (fun w hw => hw.has qb6 (Nat.ne_of_lt qb6.lt)) Tryd.underlying26 rfl (by kernel_rfl) hb.len ?_
    | refine take_load (by rfl) 24 (by rfl) (g := w2.heap.size) (n := 6) (by rfl) (t := 26) (xs := M) (fun w hw => hw.has qm6 (Nat.ne_of_lt qm6.lt)) Tryd.underlying24 rfl (by kernel_rfl) (by rw [LM.out]; decide) ?_
    | refine take_loadw (by rfl) 26 (by rfl) (g := w2.heap.size) (n := 12) (by rfl) (t := 26) (xs := M) (fun w hw => hw.has qm6 (Nat.ne_of_lt qm6.lt)) Tryd.underlying26 rfl (by kernel_rfl) LM.out ?_
    | refine take_load (by rfl) 24 (by rfl) (g := w4.heap.size) (n := 6) (by rfl) (t := 26) (xs := V) (fun w hw => hw.has qx6 (Nat.ne_of_lt qx6.lt)) Tryd.underlying24 rfl (by kernel_rfl) (by rw [LV.out]; decide) ?_
    | refine take_loadw (by rfl) 26 (by rfl) (g := w4.heap.size) (n := 12) (by rfl) (t := 26) (xs := V) (fun w hw => hw.has qx6 (Nat.ne_of_lt qx6.lt)) Tryd.underlying26 rfl (by kernel_rfl) LV.out ?_
    | refine wpTake_cons (.inl ⟨by rfl, fun w hw => (by unfold Oper.quietAt; go_simp; (first | with_reducible refine P4.out _ (HD.out _ (hb6.trans (hw.below (HSS.out _ hb6) (HSS.out _ hb6)))) | with_reducible refine P5.out _ (HD.out _ (hb6.trans (hw.below (HSS.out _ hb6) (HSS.out _ hb6))))) <;> (with_reducible first | exact Nm.fe _ | exact Nm.F2 _ | assumption | exact nm_one | exact nm_Z6 | (refine Nm.seg (m := 12) ?_ (by decide); assumption) | exact Nm.seg (m := 12) (Nm.F2 _) (by decide) | exact Nm.app2 (.fe _) (.fe _) | exact nm_rep | exact nm_Z12 | exact nm_two | (refine Nm.app2 ?_ nm_Z6; assumption) | exact Nm.app2 (.fe _) nm_Z6 | exact Nm.app2 nm_rep nm_one | exact ⟨rfl, words_of _ (by decide)⟩ | fail))⟩) ?_
    | refine take_skip (by rfl) ?_
    | refine wpTake_cons (Steady.of_yields (Or.inl ⟨by rfl, fun w => (by first | (go_simp; done) | (go_simp; with_reducible rfl))⟩)) ?_); simp only [List.getElem_toArray, List.getElem_cons_zero, List.getElem_cons_succ, Act.put, List.setIfInBounds_toArray, List.set_cons_zero, List.set_cons_succ])
  refine wpTake_nil ?_
  refine wpAnyU_end (by kernel_rfl) (fun w7 hq0 => ?_)
  have hq := (drawn_below w6).trans hq0
  have qa7 := qa6.keep hq
  have qb7 := qb6.keep hq
  have qm7 := qm6.keep hq
  have qx7 := qx6.keep hq
  have hb7 := hb6.trans (hq.mono (HSS.out _ hb6))
  clear hq0 hq hb6 qa6 qb6 qm6 qx6
  go_wp2
  go_ret
  exact ⟨rfl, hb7⟩

set_option maxRecDepth 100000 in
set_option maxHeartbeats 4000000 in
theorem products_10 (a : List Int) (ha : Nm 12 a) (b : List Int) (hb : Nm 12 b) (w : World) (hG : GlobD w) (hz : ¬ Z2 (gm (v2 a) (v2 b))) (h1 : gsq (v2 a) = true) (h2 : gsq (v2 b) = false) : Calls Tryd.prog 6 #[.agg (vals .u64 a), .agg (vals .u64 b)] w fun e w' => e = .returned (.bool true) ∧ Below w.heap.size w w' := by
  obtain ⟨M, hM⟩ : ∃ o, F2 (gm (v2 a) (v2 b)) = o := ⟨_, rfl⟩
  have nM : Nm 12 M := hM ▸ .F2 _
  have LM : Keep (M.length = 12) := ⟨nM.len⟩
  have hm : Fp2.E2 (gm (v2 a) (v2 b)) (v2 M) := by rw [← hM]; exact (v2_F2 _).symm
  have hs : gsq (v2 M) = false := by
    rw [← gsq_congr hm]
    rw [gsq_gm hz, h1, h2]
    rfl
  obtain ⟨V, hV⟩ : ∃ o, Fp2.Z12 = o := ⟨_, rfl⟩
  have nV : Nm 12 V := hV ▸ (show Nm 12 Fp2.Z12 from nm_Z12)
  have LV : Keep (V.length = 12) := ⟨nV.len⟩
  have P1 : Keep (∀ x : World, Glob x → Calls Tryd.prog 16 #[.agg (vals .u64 a), .agg (vals .u64 b)] x fun e x' => e = .returned (.agg (vals .u64 M)) ∧ Below x.heap.size x x') := ⟨fun x hG => by
    have h9 := lMul2 a ha b hb x hG
    rwa [hM] at h9⟩
  have P2 : Keep (∀ x : World, GlobD x → Calls Tryd.prog 9 #[.agg (vals .u64 M)] x fun e x' => e = .returned (.tuple #[.agg (vals .u64 V), .bool false]) ∧ Below x.heap.size x x') := ⟨fun x hG => by
    have h9 := lSq_no M nM hs x hG
    rwa [hV] at h9⟩
  have hv0 : Keep (V = [0, 0, 0, 0, 0, 0, 0, 0, 0, 0, 0, 0]) := ⟨hV.symm⟩
  have P4 : Keep (∀ x : World, GlobD x → Calls Tryd.prog 11 #[.agg (vals .u64 a)] x fun e x' => e = .returned (.bool true) ∧ Below x.heap.size x x') := ⟨fun x hG => by
    have h9 := lIs a ha x hG
    rwa [h1] at h9⟩
  have P5 : Keep (∀ x : World, GlobD x → Calls Tryd.prog 11 #[.agg (vals .u64 b)] x fun e x' => e = .returned (.bool false) ∧ Below x.heap.size x x') := ⟨fun x hG => by
    have h9 := lIs b hb x hG
    rwa [h2] at h9⟩
  have hE : Keep (M ≠ [0, 0, 0, 0, 0, 0, 0, 0, 0, 0, 0, 0]) := ⟨by rw [← hM]; exact fun h0 => hz ((F2_zero _).1 h0)⟩
  have E1 := neq12 (m := [0, 0, 0, 0, 0, 0, 0, 0, 0, 0, 0, 0]) nM.len rfl hE.out
  have hgd := gd2
  obtain ⟨S, hS⟩ : ∃ S, w.heap.size = S := ⟨_, rfl⟩
  have qa0 : Has ((w.alloc (.cells (vals .u64 a) 26)).alloc (.cells (vals .u64 b) 26)) (S) 26 (vals .u64 a) := ((Has.new' _ hS.symm _ _).alloc _)
  have qb0 : Has ((w.alloc (.cells (vals .u64 a) 26)).alloc (.cells (vals .u64 b) 26)) (S + 1) 26 (vals .u64 b) := (Has.new' _ (by simp only [World.size_alloc, hS]) _ _)
  have hb0 : Below S w ((w.alloc (.cells (vals .u64 a) 26)).alloc (.cells (vals .u64 b) 26)) := by rw [← hS]; exact (((Below.refl _ _).alloc (Nat.le_refl _) _).alloc (by simp <;> omega) _)
  have hsz0 : ((w.alloc (.cells (vals .u64 a) 26)).alloc (.cells (vals .u64 b) 26)).heap.size = S + 2 := by simp only [World.size_alloc, hS]
  have HSS : Keep (∀ x : World, Below S w x → S ≤ x.heap.size) := ⟨fun x hb => Nat.le_trans (by omega) hb.size⟩
  have HD : Keep (∀ x : World, Below S w x → GlobD x) := ⟨fun x hb => hG.keep (by rw [hS]; exact hb)⟩
  have HG : Keep (∀ x : World, Below S w x → Glob x) := ⟨fun x hb => (HD.out x hb).toGlob⟩
  clear hG
  clear hz hM hm hs hV h1 h2
  rw [hS]
  go_enter Tryd.func6, Tryd.ntmps6
  go_wp2_with (first
    | (refine store_abs2 (by rfl) 26 (.tmp 7) (.tmp 16) (by rfl) (by rfl) (w4.heap.size) (vals .u64 V) (by rfl) (by rfl) 26 (vals .u64 Fp2.Z12) (Has.new' _ rfl _ _) (by rw [vals_size, LV.out]; kernel_rfl) (by first | (rw [vals_size, vals_size, LV.out]; rfl) | rfl) vals_one ?_
       intro w5 qx5 hkeep hbg
       have hbe := ((Below.refl w4.heap.size w4).alloc (Nat.le_refl _) (.cells (vals .u64 Fp2.Z12) 26)).trans hbg
       have Nax := qa4.lt
       have qa5 := qa4.keep hbe
       have Nbx := qb4.lt
       have qb5 := qb4.keep hbe
       have Nmx := qm4.lt
       have qm5 := qm4.keep hbe
       have Mx : S ≤ w4.heap.size := HSS.out _ hb4
       have hb5 := hb4.trans (hbe.mono (HSS.out _ hb4))
       clear hkeep hbg hbe hb4 qa4 qb4 qm4)
    | (have hq0 := hb3
       clear hq0
       go_at_call 9
       refine (P2.out _ (HD.out _ hb3)).mono ?_
       rintro e w4 ⟨rfl, hq⟩
       have qa4 := qa3.keep hq
       have qb4 := qb3.keep hq
       have qm4 := qm3.keep hq
       have hb4 := hb3.trans (hq.mono (HSS.out _ hb3))
       clear hq hb3 qa3 qb3 qm3)
    | (refine wpList_load_row rfl 26 (.tmp 6) rfl (w2.heap.size) rfl _ _ _ _ qm3.eq Tryd.underlying26 rfl (by rw [vals_size, LM.out]; kernel_rfl) ?_)
    | (refine store_abs2 (by rfl) 26 (.tmp 6) (.tmp 12) (by rfl) (by rfl) (w2.heap.size) (vals .u64 M) (by rfl) (by rfl) 26 (vals .u64 Fp2.Z12) (Has.new' _ rfl _ _) (by rw [vals_size, LM.out]; kernel_rfl) (by first | (rw [vals_size, vals_size, LM.out]; rfl) | rfl) vals_one ?_
       intro w3 qm3 hkeep hbg
       have hbe := ((Below.refl w2.heap.size w2).alloc (Nat.le_refl _) (.cells (vals .u64 Fp2.Z12) 26)).trans hbg
       have Nam := qa2.lt
       have qa3 := qa2.keep hbe
       have Nbm := qb2.lt
       have qb3 := qb2.keep hbe
       have Mm : S ≤ w2.heap.size := HSS.out _ hb2
       have hb3 := hb2.trans (hbe.mono (HSS.out _ hb2))
       clear hkeep hbg hbe hb2 qa2 qb2)
    | (have hq0 := hb1
       clear hq0
       go_at_call 16
       refine (P1.out _ (HG.out _ hb1)).mono ?_
       rintro e w2 ⟨rfl, hq⟩
       have qa2 := qa1.keep hq
       have qb2 := qb1.keep hq
       have hb2 := hb1.trans (hq.mono (HSS.out _ hb1))
       clear hq hb1 qa1 qb1)
    | (refine wpList_load_row rfl 26 (.tmp 3) rfl (S + 1) rfl _ _ _ _ qb1.eq Tryd.underlying26 rfl (by rw [vals_size, hb.len]; kernel_rfl) ?_)
    | (refine wpList_load_row rfl 26 (.tmp 2) rfl (S) rfl _ _ _ _ qa1.eq Tryd.underlying26 rfl (by rw [vals_size, ha.len]; kernel_rfl) ?_)
    | (have hq0 := hb0
       clear hq0
       go_at_call 8
       refine (awake_c _ (HD.out _ hb0)).mono ?_
       rintro e w1 ⟨rfl, hq⟩
       have qa1 := qa0.keep hq
       have qb1 := qb0.keep hq
       have hb1 := hb0.trans (hq.mono (HSS.out _ hb0))
       clear hq hb0 qa0 qb0))
  refine wp_reads 17 0 w5.heap.size (by kernel_rfl) (by kernel_rfl) (by rfl) (by kernel_rfl) (fun _ _ d _ _ h => by cases d <;> exact h) ?_
  simp only [List.take_succ_cons, List.take_zero]
  repeat ((first
    | refine take_eql_t (by rfl) (by rfl) (by rfl) (by rfl) eqok2 gd2 (Nm.len (n := 12) (by with_reducible first | exact Nm.fe _ | exact Nm.F2 _ | assumption | exact nm_one | exact nm_Z6 | (refine Nm.seg (m := 12) ?_ (by decide); assumption) | exact Nm.seg (m := 12) (Nm.F2 _) (by decide) | exact Nm.app2 (.fe _) (.fe _) | exact nm_rep | exact nm_Z12 | exact nm_two | (refine Nm.app2 ?_ nm_Z6; assumption) | exact Nm.app2 (.fe _) nm_Z6 | exact Nm.app2 nm_rep nm_one | exact ⟨rfl, words_of _ (by decide)⟩ | fail)) (Nm.len (n := 12) (by with_reducible first | exact Nm.fe _ | exact Nm.F2 _ | assumption | exact nm_one | exact nm_Z6 | (refine Nm.seg (m := 12) ?_ (by decide); assumption) | exact Nm.seg (m := 12) (Nm.F2 _) (by decide) | exact Nm.app2 (.fe _) (.fe _) | exact nm_rep | exact nm_Z12 | exact nm_two | (refine Nm.app2 ?_ nm_Z6; assumption) | exact Nm.app2 (.fe _) nm_Z6 | exact Nm.app2 nm_rep nm_one | exact ⟨rfl, words_of _ (by decide)⟩ | fail)) (by with_reducible first | rfl | exact hv0.out) ?_
    | refine take_neq_t (by rfl) (by rfl) (by rfl) (by rfl) eqok2 gd2 (Nm.len (n := 12) (by with_reducible first | exact Nm.fe _ | exact Nm.F2 _ | assumption | exact nm_one | exact nm_Z6 | (refine Nm.seg (m := 12) ?_ (by decide); assumption) | exact Nm.seg (m := 12) (Nm.F2 _) (by decide) | exact Nm.app2 (.fe _) (.fe _) | exact nm_rep | exact nm_Z12 | exact nm_two | (refine Nm.app2 ?_ nm_Z6; assumption) | exact Nm.app2 (.fe _) nm_Z6 | exact Nm.app2 nm_rep nm_one | exact ⟨rfl, words_of _ (by decide)⟩ | fail)) (Nm.len (n := 12) (by with_reducible first | exact Nm.fe _ | exact Nm.F2 _ | assumption | exact nm_one | exact nm_Z6 | (refine Nm.seg (m := 12) ?_ (by decide); assumption) | exact Nm.seg (m := 12) (Nm.F2 _) (by decide) | exact Nm.app2 (.fe _) (.fe _) | exact nm_rep | exact nm_Z12 | exact nm_two | (refine Nm.app2 ?_ nm_Z6; assumption) | exact Nm.app2 (.fe _) nm_Z6 | exact Nm.app2 nm_rep nm_one | exact ⟨rfl, words_of _ (by decide)⟩ | fail)) (by with_reducible first | rfl | exact hv0.out) ?_
    | refine take_eql_f (by rfl) (by rfl) (by rfl) (by rfl) eqok2 gd2 (Nm.len (n := 12) (by with_reducible first | exact Nm.fe _ | exact Nm.F2 _ | assumption | exact nm_one | exact nm_Z6 | (refine Nm.seg (m := 12) ?_ (by decide); assumption) | exact Nm.seg (m := 12) (Nm.F2 _) (by decide) | exact Nm.app2 (.fe _) (.fe _) | exact nm_rep | exact nm_Z12 | exact nm_two | (refine Nm.app2 ?_ nm_Z6; assumption) | exact Nm.app2 (.fe _) nm_Z6 | exact Nm.app2 nm_rep nm_one | exact ⟨rfl, words_of _ (by decide)⟩ | fail)) (Nm.len (n := 12) (by with_reducible first | exact Nm.fe _ | exact Nm.F2 _ | assumption | exact nm_one | exact nm_Z6 | (refine Nm.seg (m := 12) ?_ (by decide); assumption) | exact Nm.seg (m := 12) (Nm.F2 _) (by decide) | exact Nm.app2 (.fe _) (.fe _) | exact nm_rep | exact nm_Z12 | exact nm_two | (refine Nm.app2 ?_ nm_Z6; assumption) | exact Nm.app2 (.fe _) nm_Z6 | exact Nm.app2 nm_rep nm_one | exact ⟨rfl, words_of _ (by decide)⟩ | fail)) (by with_reducible first | assumption) ?_
    | refine take_neq_f (by rfl) (by rfl) (by rfl) (by rfl) eqok2 gd2 (Nm.len (n := 12) (by with_reducible first | exact Nm.fe _ | exact Nm.F2 _ | assumption | exact nm_one | exact nm_Z6 | (refine Nm.seg (m := 12) ?_ (by decide); assumption) | exact Nm.seg (m := 12) (Nm.F2 _) (by decide) | exact Nm.app2 (.fe _) (.fe _) | exact nm_rep | exact nm_Z12 | exact nm_two | (refine Nm.app2 ?_ nm_Z6; assumption) | exact Nm.app2 (.fe _) nm_Z6 | exact Nm.app2 nm_rep nm_one | exact ⟨rfl, words_of _ (by decide)⟩ | fail)) (Nm.len (n := 12) (by with_reducible first | exact Nm.fe _ | exact Nm.F2 _ | assumption | exact nm_one | exact nm_Z6 | (refine Nm.seg (m := 12) ?_ (by decide); assumption) | exact Nm.seg (m := 12) (Nm.F2 _) (by decide) | exact Nm.app2 (.fe _) (.fe _) | exact nm_rep | exact nm_Z12 | exact nm_two | (refine Nm.app2 ?_ nm_Z6; assumption) | exact Nm.app2 (.fe _) nm_Z6 | exact Nm.app2 nm_rep nm_one | exact ⟨rfl, words_of _ (by decide)⟩ | fail)) (by with_reducible first | assumption) ?_
    | refine take_build (by rfl) (t := 26) (parts := #[]) (by rfl) (cells := vals .u64 [0, 0, 0, 0, 0, 0, 0, 0, 0, 0, 0, 0]) (by kernel_rfl) ?_
    | refine take_load (by rfl) 24 (by rfl) (g := S) (n := 6) (by rfl) (t := 26) (xs := a) (fun w hw => hw.has qa5 (Nat.ne_of_lt qa5.lt)) Tryd.underlying24 rfl (by kernel_rfl) (by rw [ha.len]; decide) ?_
    | refine take_loadw (by rfl) 26 (by rfl) (g := S) (n := 12) (by rfl) (t := 26) (xs := a) (fun w hw => hw.has qa5 (Nat.ne_of_lt qa5.lt)) Tryd.underlying26 rfl (by kernel_rfl) ha.len ?_
    | refine take_load (by rfl) 24 (by rfl) (g := S + 1) (n := 6) (by rfl) (t := 26) (xs := b) (fun w hw => hw.has qb5 (Nat.ne_of_lt qb5.lt)) Tryd.underlying24 rfl (by kernel_rfl) (by rw [hb.len]; decide) ?_
    | refine take_loadw (by rfl) 26 (by rfl) (g := S + 1) (n := 12) (by rfl) (t := 26) (xs := b) (fun w hw => hw.has qb5 (Nat.ne_of_lt qb5.lt)) Tryd.underlying26 rfl (by kernel_rfl) hb.len ?_
    | refine take_load (by rfl) 24 (by rfl) (g := w2.heap.size) (n := 6) (by rfl) (t := 26) (xs := M) (fun w hw => hw.has qm5 (Nat.ne_of_lt qm5.lt)) Tryd.underlying24 rfl (by kernel_rfl) (by rw [LM.out]; decide) ?_
    | refine take_loadw (by rfl) 26 (by rfl) (g := w2.heap.size) (n := 12) (by rfl) (t := 26) (xs := M) (fun w hw => hw.has qm5 (Nat.ne_of_lt qm5.lt)) Tryd.underlying26 rfl (by kernel_rfl) LM.out ?_
    | refine take_load (by rfl) 24 (by rfl) (g := w4.heap.size) (n := 6) (by rfl) (t := 26) (xs := V) (fun w hw => hw.has qx5 (Nat.ne_of_lt qx5.lt)) Tryd.underlying24 rfl (by kernel_rfl) (by rw [LV.out]; decide) ?_
    | refine take_loadw (by rfl) 26 (by rfl) (g := w4.heap.size) (n := 12) (by rfl) (t := 26) (xs := V) (fun w hw => hw.has qx5 (Nat.ne_of_lt qx5.lt)) Tryd.underlying26 rfl (by kernel_rfl) LV.out ?_
    | refine take_skip (by rfl) ?_
    | refine wpTake_cons (Steady.of_yields (Or.inl ⟨by rfl, fun w => (by first | (go_simp; done) | (go_simp; with_reducible rfl))⟩)) ?_); simp only [List.getElem_toArray, List.getElem_cons_zero, List.getElem_cons_succ, Act.put, List.setIfInBounds_toArray, List.set_cons_zero, List.set_cons_succ])
  refine wpTake_nil ?_
  refine wpAnyU_end (by kernel_rfl) (fun w6 hq0 => ?_)
  have hq := (drawn_below w5).trans hq0
  have qa6 := qa5.keep hq
  have qb6 := qb5.keep hq
  have qm6 := qm5.keep hq
  have qx6 := qx5.keep hq
  have hb6 := hb5.trans (hq.mono (HSS.out _ hb5))
  clear hq0 hq hb5 qa5 qb5 qm5 qx5
  go_wp2_with (first
    | (refine wpList_buildTo (by rfl) 26 #[] (by rfl) (some 36) (by rfl) (vals .u64 [0, 0, 0, 0, 0, 0, 0, 0, 0, 0, 0, 0]) (by kernel_rfl) ?_)
    | (refine wpList_load_row rfl 26 (.tmp 6) rfl (w2.heap.size) rfl _ _ _ _ qm6.eq Tryd.underlying26 rfl (by rw [vals_size, LM.out]; kernel_rfl) ?_))
  refine wp_reads 11 0 w6.heap.size (by kernel_rfl) (by kernel_rfl) (by rfl) (by kernel_rfl) (fun _ _ d _ _ h => by cases d <;> exact h) ?_
  simp only [List.take_succ_cons, List.take_zero]
  repeat ((first
    | refine take_eql_t (by rfl) (by rfl) (by rfl) (by rfl) eqok2 gd2 (Nm.len (n := 12) (by with_reducible first | exact Nm.fe _ | exact Nm.F2 _ | assumption | exact nm_one | exact nm_Z6 | (refine Nm.seg (m := 12) ?_ (by decide); assumption) | exact Nm.seg (m := 12) (Nm.F2 _) (by decide) | exact Nm.app2 (.fe _) (.fe _) | exact nm_rep | exact nm_Z12 | exact nm_two | (refine Nm.app2 ?_ nm_Z6; assumption) | exact Nm.app2 (.fe _) nm_Z6 | exact Nm.app2 nm_rep nm_one | exact ⟨rfl, words_of _ (by decide)⟩ | fail)) (Nm.len (n := 12) (by with_reducible first | exact Nm.fe _ | exact Nm.F2 _ | assumption | exact nm_one | exact nm_Z6 | (refine Nm.seg (m := 12) ?_ (by decide); assumption) | exact Nm.seg (m := 12) (Nm.F2 _) (by decide) | exact Nm.app2 (.fe _) (.fe _) | exact nm_rep | exact nm_Z12 | exact nm_two | (refine Nm.app2 ?_ nm_Z6; assumption) | exact Nm.app2 (.fe _) nm_Z6 | exact Nm.app2 nm_rep nm_one | exact ⟨rfl, words_of _ (by decide)⟩ | fail)) (by with_reducible first | rfl) ?_
    | refine take_neq_t (by rfl) (by rfl) (by rfl) (by rfl) eqok2 gd2 (Nm.len (n := 12) (by with_reducible first | exact Nm.fe _ | exact Nm.F2 _ | assumption | exact nm_one | exact nm_Z6 | (refine Nm.seg (m := 12) ?_ (by decide); assumption) | exact Nm.seg (m := 12) (Nm.F2 _) (by decide) | exact Nm.app2 (.fe _) (.fe _) | exact nm_rep | exact nm_Z12 | exact nm_two | (refine Nm.app2 ?_ nm_Z6; assumption) | exact Nm.app2 (.fe _) nm_Z6 | exact Nm.app2 nm_rep nm_one | exact ⟨rfl, words_of _ (by decide)⟩ | fail)) (Nm.len (n := 12) (by with_reducible first | exact Nm.fe _ | exact Nm.F2 _ | assumption | exact nm_one | exact nm_Z6 | (refine Nm.seg (m := 12) ?_ (by decide); assumption) | exact Nm.seg (m := 12) (Nm.F2 _) (by decide) | exact Nm.app2 (.fe _) (.fe _) | exact nm_rep | exact nm_Z12 | exact nm_two | (refine Nm.app2 ?_ nm_Z6; assumption) | exact Nm.app2 (.fe _) nm_Z6 | exact Nm.app2 nm_rep nm_one | exact ⟨rfl, words_of _ (by decide)⟩ | fail)) (by with_reducible first | rfl) ?_
    | refine take_eql_f (by rfl) (by rfl) (by rfl) (by rfl) eqok2 gd2 (Nm.len (n := 12) (by with_reducible first | exact Nm.fe _ | exact Nm.F2 _ | assumption | exact nm_one | exact nm_Z6 | (refine Nm.seg (m := 12) ?_ (by decide); assumption) | exact Nm.seg (m := 12) (Nm.F2 _) (by decide) | exact Nm.app2 (.fe _) (.fe _) | exact nm_rep | exact nm_Z12 | exact nm_two | (refine Nm.app2 ?_ nm_Z6; assumption) | exact Nm.app2 (.fe _) nm_Z6 | exact Nm.app2 nm_rep nm_one | exact ⟨rfl, words_of _ (by decide)⟩ | fail)) (Nm.len (n := 12) (by with_reducible first | exact Nm.fe _ | exact Nm.F2 _ | assumption | exact nm_one | exact nm_Z6 | (refine Nm.seg (m := 12) ?_ (by decide); assumption) | exact Nm.seg (m := 12) (Nm.F2 _) (by decide) | exact Nm.app2 (.fe _) (.fe _) | exact nm_rep | exact nm_Z12 | exact nm_two | (refine Nm.app2 ?_ nm_Z6; assumption) | exact Nm.app2 (.fe _) nm_Z6 | exact Nm.app2 nm_rep nm_one | exact ⟨rfl, words_of _ (by decide)⟩ | fail)) (by with_reducible first | assumption) ?_
    | refine take_neq_f (by rfl) (by rfl) (by rfl) (by rfl) eqok2 gd2 (Nm.len (n := 12) (by with_reducible first | exact Nm.fe _ | exact Nm.F2 _ | assumption | exact nm_one | exact nm_Z6 | (refine Nm.seg (m := 12) ?_ (by decide); assumption) | exact Nm.seg (m := 12) (Nm.F2 _) (by decide) | exact Nm.app2 (.fe _) (.fe _) | exact nm_rep | exact nm_Z12 | exact nm_two | (refine Nm.app2 ?_ nm_Z6; assumption) | exact Nm.app2 (.fe _) nm_Z6 | exact Nm.app2 nm_rep nm_one | exact ⟨rfl, words_of _ (by decide)⟩ | fail)) (Nm.len (n := 12) (by with_reducible first | exact Nm.fe _ | exact Nm.F2 _ | assumption | exact nm_one | exact nm_Z6 | (refine Nm.seg (m := 12) ?_ (by decide); assumption) | exact Nm.seg (m := 12) (Nm.F2 _) (by decide) | exact Nm.app2 (.fe _) (.fe _) | exact nm_rep | exact nm_Z12 | exact nm_two | (refine Nm.app2 ?_ nm_Z6; assumption) | exact Nm.app2 (.fe _) nm_Z6 | exact Nm.app2 nm_rep nm_one | exact ⟨rfl, words_of _ (by decide)⟩ | fail)) (by with_reducible first | assumption) ?_
    | refine take_load (by rfl) 24 (by rfl) (g := S) (n := 6) (by rfl) (t := 26) (xs := a) (fun w hw => hw.has qa6 (Nat.ne_of_lt qa6.lt)) Tryd.underlying24 rfl (by kernel_rfl) (by rw [ha.len]; decide) ?_
    | refine take_loadw (by rfl) 26 (by rfl) (g := S) (n := 12) (by rfl) (t := 26) (xs := a) (fun w hw => hw.has qa6 (Nat.ne_of_lt qa6.lt)) Tryd.underlying26 rfl (by kernel_rfl) ha.len ?_
    | refine take_load (by rfl) 24 (by rfl) (g := S + 1) (n := 6) (by rfl) (t := 26) (xs := b) (fun w hw => hw.has qb6 (Nat.ne_of_lt qb6.lt)) Tryd.underlying24 rfl (by kernel_rfl) (by rw [hb.len]; decide) ?_
    | refine take_loadw (by rfl) 26 (by rfl) (g := S + 1) (n := 12) (by rfl) (t := 26) (xs := b) (fun w hw => hw.has qb6 (Nat.ne_of_lt qb6.lt)) Tryd.underlying26 rfl (by kernel_rfl) hb.len ?_
    | refine take_load (by rfl) 24 (by rfl) (g := w2.heap.size) (n := 6) (by rfl) (t := 26) (xs := M) (fun w hw => hw.has qm6 (Nat.ne_of_lt qm6.lt)) Tryd.underlying24 rfl (by kernel_rfl) (by rw [LM.out]; decide) ?_
    | refine take_loadw (by rfl) 26 (by rfl) (g := w2.heap.size) (n := 12) (by rfl) (t := 26) (xs := M) (fun w hw => hw.has qm6 (Nat.ne_of_lt qm6.lt)) Tryd.underlying26 rfl (by kernel_rfl) LM.out ?_
    | refine take_load (by rfl) 24 (by rfl) (g := w4.heap.size) (n := 6) (by rfl) (t := 26) (xs := V) (fun w hw => hw.has qx6 (Nat.ne_of_lt qx6.lt)) Tryd.underlying24 rfl (by kernel_rfl) (by rw [LV.out]; decide) ?_
    | refine take_loadw (by rfl) 26 (by rfl) (g := w4.heap.size) (n := 12) (by rfl) (t := 26) (xs := V) (fun w hw => hw.has qx6 (Nat.ne_of_lt qx6.lt)) Tryd.underlying26 rfl (by kernel_rfl) LV.out ?_
    | refine wpTake_cons (.inl ⟨by rfl, fun w hw => (by unfold Oper.quietAt; go_simp; (first | with_reducible refine P4.out _ (HD.out _ (hb6.trans (hw.below (HSS.out _ hb6) (HSS.out _ hb6)))) | with_reducible refine P5.out _ (HD.out _ (hb6.trans (hw.below (HSS.out _ hb6) (HSS.out _ hb6))))) <;> (with_reducible first | exact Nm.fe _ | exact Nm.F2 _ | assumption | exact nm_one | exact nm_Z6 | (refine Nm.seg (m := 12) ?_ (by decide); assumption) | exact Nm.seg (m := 12) (Nm.F2 _) (by decide) | exact Nm.app2 (.fe _) (.fe _) | exact nm_rep | exact nm_Z12 | exact nm_two | (refine Nm.app2 ?_ nm_Z6; assumption) | exact Nm.app2 (.fe _) nm_Z6 | exact Nm.app2 nm_rep nm_one | exact ⟨rfl, words_of _ (by decide)⟩ | fail))⟩) ?_
    | refine take_skip (by rfl) ?_
    | refine wpTake_cons (Steady.of_yields (Or.inl ⟨by rfl, fun w => (by first | (go_simp; done) | (go_simp; with_reducible rfl))⟩)) ?_); simp only [List.getElem_toArray, List.getElem_cons_zero, List.getElem_cons_succ, Act.put, List.setIfInBounds_toArray, List.set_cons_zero, List.set_cons_succ])
  refine wpTake_nil ?_
  refine wpAnyU_end (by kernel_rfl) (fun w7 hq0 => ?_)
  have hq := (drawn_below w6).trans hq0
  have qa7 := qa6.keep hq
  have qb7 := qb6.keep hq
  have qm7 := qm6.keep hq
  have qx7 := qx6.keep hq
  have hb7 := hb6.trans (hq.mono (HSS.out _ hb6))
  clear hq0 hq hb6 qa6 qb6 qm6 qx6
  go_wp2
  go_ret
  exact ⟨rfl, hb7⟩

set_option maxRecDepth 100000 in
set_option maxHeartbeats 4000000 in
theorem products_11 (a : List Int) (ha : Nm 12 a) (b : List Int) (hb : Nm 12 b) (w : World) (hG : GlobD w) (hz : ¬ Z2 (gm (v2 a) (v2 b))) (h1 : gsq (v2 a) = true) (h2 : gsq (v2 b) = true) : Calls Tryd.prog 6 #[.agg (vals .u64 a), .agg (vals .u64 b)] w fun e w' => e = .returned (.bool true) ∧ Below w.heap.size w w' := by
  obtain ⟨M, hM⟩ : ∃ o, F2 (gm (v2 a) (v2 b)) = o := ⟨_, rfl⟩
  have nM : Nm 12 M := hM ▸ .F2 _
  have LM : Keep (M.length = 12) := ⟨nM.len⟩
  have hm : Fp2.E2 (gm (v2 a) (v2 b)) (v2 M) := by rw [← hM]; exact (v2_F2 _).symm
  have hs : gsq (v2 M) = true := by
    rw [← gsq_congr hm]
    rw [gsq_gm hz, h1, h2]
    rfl
  obtain ⟨V, hV⟩ : ∃ o, root2 (v2 M) = o := ⟨_, rfl⟩
  have nV : Nm 12 V := hV ▸ (root2_nm _)
  have LV : Keep (V.length = 12) := ⟨nV.len⟩
  have P1 : Keep (∀ x : World, Glob x → Calls Tryd.prog 16 #[.agg (vals .u64 a), .agg (vals .u64 b)] x fun e x' => e = .returned (.agg (vals .u64 M)) ∧ Below x.heap.size x x') := ⟨fun x hG => by
    have h9 := lMul2 a ha b hb x hG
    rwa [hM] at h9⟩
  have P2 : Keep (∀ x : World, GlobD x → Calls Tryd.prog 9 #[.agg (vals .u64 M)] x fun e x' => e = .returned (.tuple #[.agg (vals .u64 V), .bool true]) ∧ Below x.heap.size x x') := ⟨fun x hG => by
    have h9 := lSq_yes M nM hs x hG
    rwa [hV] at h9⟩
  have hr : F2 (gm (v2 V) (v2 V)) = M := by
    rw [← hV, root2_two hs]
    exact (F2_eq hm.symm).trans hM
  have P3 : Keep (∀ x : World, Glob x → Calls Tryd.prog 16 #[.agg (vals .u64 V), .agg (vals .u64 V)] x fun e x' => e = .returned (.agg (vals .u64 M)) ∧ Below x.heap.size x x') := ⟨fun x hG => by
    have h9 := lMul2 V nV V nV x hG
    rwa [hr] at h9⟩
  have P4 : Keep (∀ x : World, GlobD x → Calls Tryd.prog 11 #[.agg (vals .u64 a)] x fun e x' => e = .returned (.bool true) ∧ Below x.heap.size x x') := ⟨fun x hG => by
    have h9 := lIs a ha x hG
    rwa [h1] at h9⟩
  have P5 : Keep (∀ x : World, GlobD x → Calls Tryd.prog 11 #[.agg (vals .u64 b)] x fun e x' => e = .returned (.bool true) ∧ Below x.heap.size x x') := ⟨fun x hG => by
    have h9 := lIs b hb x hG
    rwa [h2] at h9⟩
  have hE : Keep (M ≠ [0, 0, 0, 0, 0, 0, 0, 0, 0, 0, 0, 0]) := ⟨by rw [← hM]; exact fun h0 => hz ((F2_zero _).1 h0)⟩
  have E1 := neq12 (m := [0, 0, 0, 0, 0, 0, 0, 0, 0, 0, 0, 0]) nM.len rfl hE.out
  have hgd := gd2
  obtain ⟨S, hS⟩ : ∃ S, w.heap.size = S := ⟨_, rfl⟩
  have qa0 : Has ((w.alloc (.cells (vals .u64 a) 26)).alloc (.cells (vals .u64 b) 26)) (S) 26 (vals .u64 a) := ((Has.new' _ hS.symm _ _).alloc _)
  have qb0 : Has ((w.alloc (.cells (vals .u64 a) 26)).alloc (.cells (vals .u64 b) 26)) (S + 1) 26 (vals .u64 b) := (Has.new' _ (by simp only [World.size_alloc, hS]) _ _)
  have hb0 : Below S w ((w.alloc (.cells (vals .u64 a) 26)).alloc (.cells (vals .u64 b) 26)) := by rw [← hS]; exact (((Below.refl _ _).alloc (Nat.le_refl _) _).alloc (by simp <;> omega) _)
  have hsz0 : ((w.alloc (.cells (vals .u64 a) 26)).alloc (.cells (vals .u64 b) 26)).heap.size = S + 2 := by simp only [World.size_alloc, hS]
  have HSS : Keep (∀ x : World, Below S w x → S ≤ x.heap.size) := ⟨fun x hb => Nat.le_trans (by omega) hb.size⟩
  have HD : Keep (∀ x : World, Below S w x → GlobD x) := ⟨fun x hb => hG.keep (by rw [hS]; exact hb)⟩
  have HG : Keep (∀ x : World, Below S w x → Glob x) := ⟨fun x hb => (HD.out x hb).toGlob⟩
  clear hG
  clear hz hM hm hs hV hr h1 h2
  rw [hS]
  go_enter Tryd.func6, Tryd.ntmps6
  go_wp2_with (first
    | (refine store_abs2 (by rfl) 26 (.tmp 7) (.tmp 16) (by rfl) (by rfl) (w4.heap.size) (vals .u64 V) (by rfl) (by rfl) 26 (vals .u64 Fp2.Z12) (Has.new' _ rfl _ _) (by rw [vals_size, LV.out]; kernel_rfl) (by first | (rw [vals_size, vals_size, LV.out]; rfl) | rfl) vals_one ?_
       intro w5 qx5 hkeep hbg
       have hbe := ((Below.refl w4.heap.size w4).alloc (Nat.le_refl _) (.cells (vals .u64 Fp2.Z12) 26)).trans hbg
       have Nax := qa4.lt
       have qa5 := qa4.keep hbe
       have Nbx := qb4.lt
       have qb5 := qb4.keep hbe
       have Nmx := qm4.lt
       have qm5 := qm4.keep hbe
       have Mx : S ≤ w4.heap.size := HSS.out _ hb4
       have hb5 := hb4.trans (hbe.mono (HSS.out _ hb4))
       clear hkeep hbg hbe hb4 qa4 qb4 qm4)
    | (have hq0 := hb3
       clear hq0
       go_at_call 9
       refine (P2.out _ (HD.out _ hb3)).mono ?_
       rintro e w4 ⟨rfl, hq⟩
       have qa4 := qa3.keep hq
       have qb4 := qb3.keep hq
       have qm4 := qm3.keep hq
       have hb4 := hb3.trans (hq.mono (HSS.out _ hb3))
       clear hq hb3 qa3 qb3 qm3)
    | (refine wpList_load_row rfl 26 (.tmp 6) rfl (w2.heap.size) rfl _ _ _ _ qm3.eq Tryd.underlying26 rfl (by rw [vals_size, LM.out]; kernel_rfl) ?_)
    | (refine store_abs2 (by rfl) 26 (.tmp 6) (.tmp 12) (by rfl) (by rfl) (w2.heap.size) (vals .u64 M) (by rfl) (by rfl) 26 (vals .u64 Fp2.Z12) (Has.new' _ rfl _ _) (by rw [vals_size, LM.out]; kernel_rfl) (by first | (rw [vals_size, vals_size, LM.out]; rfl) | rfl) vals_one ?_
       intro w3 qm3 hkeep hbg
       have hbe := ((Below.refl w2.heap.size w2).alloc (Nat.le_refl _) (.cells (vals .u64 Fp2.Z12) 26)).trans hbg
       have Nam := qa2.lt
       have qa3 := qa2.keep hbe
       have Nbm := qb2.lt
       have qb3 := qb2.keep hbe
       have Mm : S ≤ w2.heap.size := HSS.out _ hb2
       have hb3 := hb2.trans (hbe.mono (HSS.out _ hb2))
       clear hkeep hbg hbe hb2 qa2 qb2)
    | (have hq0 := hb1
       clear hq0
       go_at_call 16
       refine (P1.out _ (HG.out _ hb1)).mono ?_
       rintro e w2 ⟨rfl, hq⟩
       have qa2 := qa1.keep hq
       have qb2 := qb1.keep hq
       have hb2 := hb1.trans (hq.mono (HSS.out _ hb1))
       clear hq hb1 qa1 qb1)
    | (refine wpList_load_row rfl 26 (.tmp 3) rfl (S + 1) rfl _ _ _ _ qb1.eq Tryd.underlying26 rfl (by rw [vals_size, hb.len]; kernel_rfl) ?_)
    | (refine wpList_load_row rfl 26 (.tmp 2) rfl (S) rfl _ _ _ _ qa1.eq Tryd.underlying26 rfl (by rw [vals_size, ha.len]; kernel_rfl) ?_)
    | (have hq0 := hb0
       clear hq0
       go_at_call 8
       refine (awake_c _ (HD.out _ hb0)).mono ?_
       rintro e w1 ⟨rfl, hq⟩
       have qa1 := qa0.keep hq
       have qb1 := qb0.keep hq
       have hb1 := hb0.trans (hq.mono (HSS.out _ hb0))
       clear hq hb0 qa0 qb0))
  refine wp_reads 17 0 w5.heap.size (by kernel_rfl) (by kernel_rfl) (by rfl) (by kernel_rfl) (fun _ _ d _ _ h => by cases d <;> exact h) ?_
  simp only [List.take_succ_cons, List.take_zero]
  repeat ((first
    | refine take_eql_t (by rfl) (by rfl) (by rfl) (by rfl) eqok2 gd2 (Nm.len (n := 12) (by with_reducible first | exact Nm.fe _ | exact Nm.F2 _ | assumption | exact nm_one | exact nm_Z6 | (refine Nm.seg (m := 12) ?_ (by decide); assumption) | exact Nm.seg (m := 12) (Nm.F2 _) (by decide) | exact Nm.app2 (.fe _) (.fe _) | exact nm_rep | exact nm_Z12 | exact nm_two | (refine Nm.app2 ?_ nm_Z6; assumption) | exact Nm.app2 (.fe _) nm_Z6 | exact Nm.app2 nm_rep nm_one | exact ⟨rfl, words_of _ (by decide)⟩ | fail)) (Nm.len (n := 12) (by with_reducible first | exact Nm.fe _ | exact Nm.F2 _ | assumption | exact nm_one | exact nm_Z6 | (refine Nm.seg (m := 12) ?_ (by decide); assumption) | exact Nm.seg (m := 12) (Nm.F2 _) (by decide) | exact Nm.app2 (.fe _) (.fe _) | exact nm_rep | exact nm_Z12 | exact nm_two | (refine Nm.app2 ?_ nm_Z6; assumption) | exact Nm.app2 (.fe _) nm_Z6 | exact Nm.app2 nm_rep nm_one | exact ⟨rfl, words_of _ (by decide)⟩ | fail)) (by with_reducible first | rfl) ?_
    | refine take_neq_t (by rfl) (by rfl) (by rfl) (by rfl) eqok2 gd2 (Nm.len (n := 12) (by with_reducible first | exact Nm.fe _ | exact Nm.F2 _ | assumption | exact nm_one | exact nm_Z6 | (refine Nm.seg (m := 12) ?_ (by decide); assumption) | exact Nm.seg (m := 12) (Nm.F2 _) (by decide) | exact Nm.app2 (.fe _) (.fe _) | exact nm_rep | exact nm_Z12 | exact nm_two | (refine Nm.app2 ?_ nm_Z6; assumption) | exact Nm.app2 (.fe _) nm_Z6 | exact Nm.app2 nm_rep nm_one | exact ⟨rfl, words_of _ (by decide)⟩ | fail)) (Nm.len (n := 12) (by with_reducible first | exact Nm.fe _ | exact Nm.F2 _ | assumption | exact nm_one | exact nm_Z6 | (refine Nm.seg (m := 12) ?_ (by decide); assumption) | exact Nm.seg (m := 12) (Nm.F2 _) (by decide) | exact Nm.app2 (.fe _) (.fe _) | exact nm_rep | exact nm_Z12 | exact nm_two | (refine Nm.app2 ?_ nm_Z6; assumption) | exact Nm.app2 (.fe _) nm_Z6 | exact Nm.app2 nm_rep nm_one | exact ⟨rfl, words_of _ (by decide)⟩ | fail)) (by with_reducible first | rfl) ?_
    | refine take_eql_f (by rfl) (by rfl) (by rfl) (by rfl) eqok2 gd2 (Nm.len (n := 12) (by with_reducible first | exact Nm.fe _ | exact Nm.F2 _ | assumption | exact nm_one | exact nm_Z6 | (refine Nm.seg (m := 12) ?_ (by decide); assumption) | exact Nm.seg (m := 12) (Nm.F2 _) (by decide) | exact Nm.app2 (.fe _) (.fe _) | exact nm_rep | exact nm_Z12 | exact nm_two | (refine Nm.app2 ?_ nm_Z6; assumption) | exact Nm.app2 (.fe _) nm_Z6 | exact Nm.app2 nm_rep nm_one | exact ⟨rfl, words_of _ (by decide)⟩ | fail)) (Nm.len (n := 12) (by with_reducible first | exact Nm.fe _ | exact Nm.F2 _ | assumption | exact nm_one | exact nm_Z6 | (refine Nm.seg (m := 12) ?_ (by decide); assumption) | exact Nm.seg (m := 12) (Nm.F2 _) (by decide) | exact Nm.app2 (.fe _) (.fe _) | exact nm_rep | exact nm_Z12 | exact nm_two | (refine Nm.app2 ?_ nm_Z6; assumption) | exact Nm.app2 (.fe _) nm_Z6 | exact Nm.app2 nm_rep nm_one | exact ⟨rfl, words_of _ (by decide)⟩ | fail)) (by with_reducible first | assumption) ?_
    | refine take_neq_f (by rfl) (by rfl) (by rfl) (by rfl) eqok2 gd2 (Nm.len (n := 12) (by with_reducible first | exact Nm.fe _ | exact Nm.F2 _ | assumption | exact nm_one | exact nm_Z6 | (refine Nm.seg (m := 12) ?_ (by decide); assumption) | exact Nm.seg (m := 12) (Nm.F2 _) (by decide) | exact Nm.app2 (.fe _) (.fe _) | exact nm_rep | exact nm_Z12 | exact nm_two | (refine Nm.app2 ?_ nm_Z6; assumption) | exact Nm.app2 (.fe _) nm_Z6 | exact Nm.app2 nm_rep nm_one | exact ⟨rfl, words_of _ (by decide)⟩ | fail)) (Nm.len (n := 12) (by with_reducible first | exact Nm.fe _ | exact Nm.F2 _ | assumption | exact nm_one | exact nm_Z6 | (refine Nm.seg (m := 12) ?_ (by decide); assumption) | exact Nm.seg (m := 12) (Nm.F2 _) (by decide) | exact Nm.app2 (.fe _) (.fe _) | exact nm_rep | exact nm_Z12 | exact nm_two | (refine Nm.app2 ?_ nm_Z6; assumption) | exact Nm.app2 (.fe _) nm_Z6 | exact Nm.app2 nm_rep nm_one | exact ⟨rfl, words_of _ (by decide)⟩ | fail)) (by with_reducible first | assumption) ?_
    | refine take_build (by rfl) (t := 26) (parts := #[]) (by rfl) (cells := vals .u64 [0, 0, 0, 0, 0, 0, 0, 0, 0, 0, 0, 0]) (by kernel_rfl) ?_
    | refine take_load (by rfl) 24 (by rfl) (g := S) (n := 6) (by rfl) (t := 26) (xs := a) (fun w hw => hw.has qa5 (Nat.ne_of_lt qa5.lt)) Tryd.underlying24 rfl (by kernel_rfl) (by rw [ha.len]; decide) ?_
    | refine take_loadw (by rfl) 26 (by rfl) (g := S) (n := 12) (by rfl) (t := 26) (xs := a) (fun w hw => hw.has qa5 (Nat.ne_of_lt qa5.lt)) Tryd.underlying26 rfl (by kernel_rfl) ha.len ?_
    | refine take_load (by rfl) 24 (by rfl) (g := S + 1) (n := 6) (by rfl) (t := 26) (xs := b) (fun w hw => hw.has qb5 (Nat.ne_of_lt qb5.lt)) Tryd.underlying24 rfl (by kernel_rfl) (by rw [hb.len]; decide) ?_
    | refine take_loadw (by rfl) 26 (by rfl) (g := S + 1) (n := 12) (by rfl) (t := 26) (xs := b) (fun w hw => hw.has qb5 (Nat.ne_of_lt qb5.lt)) Tryd.underlying26 rfl (by kernel_rfl) hb.len ?_
    | refine take_load (by rfl) 24 (by rfl) (g := w2.heap.size) (n := 6) (by rfl) (t := 26) (xs := M) (fun w hw => hw.has qm5 (Nat.ne_of_lt qm5.lt)) Tryd.underlying24 rfl (by kernel_rfl) (by rw [LM.out]; decide) ?_
    | refine take_loadw (by rfl) 26 (by rfl) (g := w2.heap.size) (n := 12) (by rfl) (t := 26) (xs := M) (fun w hw => hw.has qm5 (Nat.ne_of_lt qm5.lt)) Tryd.underlying26 rfl (by kernel_rfl) LM.out ?_
    | refine take_load (by rfl) 24 (by rfl) (g := w4.heap.size) (n := 6) (by rfl) (t := 26) (xs := V) (fun w hw => hw.has qx5 (Nat.ne_of_lt qx5.lt)) Tryd.underlying24 rfl (by kernel_rfl) (by rw [LV.out]; decide) ?_
    | refine take_loadw (by rfl) 26 (by rfl) (g := w4.heap.size) (n := 12) (by rfl) (t := 26) (xs := V) (fun w hw => hw.has qx5 (Nat.ne_of_lt qx5.lt)) Tryd.underlying26 rfl (by kernel_rfl) LV.out ?_
    | refine wpTake_cons (.inl ⟨by rfl, fun w hw => (by unfold Oper.quietAt; go_simp; (first | with_reducible refine P3.out _ (HG.out _ (hb5.trans (hw.below (HSS.out _ hb5) (HSS.out _ hb5))))) <;> (with_reducible first | exact Nm.fe _ | exact Nm.F2 _ | assumption | exact nm_one | exact nm_Z6 | (refine Nm.seg (m := 12) ?_ (by decide); assumption) | exact Nm.seg (m := 12) (Nm.F2 _) (by decide) | exact Nm.app2 (.fe _) (.fe _) | exact nm_rep | exact nm_Z12 | exact nm_two | (refine Nm.app2 ?_ nm_Z6; assumption) | exact Nm.app2 (.fe _) nm_Z6 | exact Nm.app2 nm_rep nm_one | exact ⟨rfl, words_of _ (by decide)⟩ | fail))⟩) ?_
    | refine take_skip (by rfl) ?_
    | refine wpTake_cons (Steady.of_yields (Or.inl ⟨by rfl, fun w => (by first | (go_simp; done) | (go_simp; with_reducible rfl))⟩)) ?_); simp only [List.getElem_toArray, List.getElem_cons_zero, List.getElem_cons_succ, Act.put, List.setIfInBounds_toArray, List.set_cons_zero, List.set_cons_succ])
  refine wpTake_nil ?_
  refine wpAnyU_end (by kernel_rfl) (fun w6 hq0 => ?_)
  have hq := (drawn_below w5).trans hq0
  have qa6 := qa5.keep hq
  have qb6 := qb5.keep hq
  have qm6 := qm5.keep hq
  have qx6 := qx5.keep hq
  have hb6 := hb5.trans (hq.mono (HSS.out _ hb5))
  clear hq0 hq hb5 qa5 qb5 qm5 qx5
  go_wp2_with (first
    | (refine wpList_buildTo (by rfl) 26 #[] (by rfl) (some 36) (by rfl) (vals .u64 [0, 0, 0, 0, 0, 0, 0, 0, 0, 0, 0, 0]) (by kernel_rfl) ?_)
    | (refine wpList_load_row rfl 26 (.tmp 6) rfl (w2.heap.size) rfl _ _ _ _ qm6.eq Tryd.underlying26 rfl (by rw [vals_size, LM.out]; kernel_rfl) ?_))
  refine wp_reads 11 0 w6.heap.size (by kernel_rfl) (by kernel_rfl) (by rfl) (by kernel_rfl) (fun _ _ d _ _ h => by cases d <;> exact h) ?_
  simp only [List.take_succ_cons, List.take_zero]
  repeat ((first
    | refine take_eql_t (by rfl) (by rfl) (by rfl) (by rfl) eqok2 gd2 (Nm.len (n := 12) (by with_reducible first | exact Nm.fe _ | exact Nm.F2 _ | assumption | exact nm_one | exact nm_Z6 | (refine Nm.seg (m := 12) ?_ (by decide); assumption) | exact Nm.seg (m := 12) (Nm.F2 _) (by decide) | exact Nm.app2 (.fe _) (.fe _) | exact nm_rep | exact nm_Z12 | exact nm_two | (refine Nm.app2 ?_ nm_Z6; assumption) | exact Nm.app2 (.fe _) nm_Z6 | exact Nm.app2 nm_rep nm_one | exact ⟨rfl, words_of _ (by decide)⟩ | fail)) (Nm.len (n := 12) (by with_reducible first | exact Nm.fe _ | exact Nm.F2 _ | assumption | exact nm_one | exact nm_Z6 | (refine Nm.seg (m := 12) ?_ (by decide); assumption) | exact Nm.seg (m := 12) (Nm.F2 _) (by decide) | exact Nm.app2 (.fe _) (.fe _) | exact nm_rep | exact nm_Z12 | exact nm_two | (refine Nm.app2 ?_ nm_Z6; assumption) | exact Nm.app2 (.fe _) nm_Z6 | exact Nm.app2 nm_rep nm_one | exact ⟨rfl, words_of _ (by decide)⟩ | fail)) (by with_reducible first | rfl) ?_
    | refine take_neq_t (by rfl) (by rfl) (by rfl) (by rfl) eqok2 gd2 (Nm.len (n := 12) (by with_reducible first | exact Nm.fe _ | exact Nm.F2 _ | assumption | exact nm_one | exact nm_Z6 | (refine Nm.seg (m := 12) ?_ (by decide); assumption) | exact Nm.seg (m := 12) (Nm.F2 _) (by decide) | exact Nm.app2 (.fe _) (.fe _) | exact nm_rep | exact nm_Z12 | exact nm_two | (refine Nm.app2 ?_ nm_Z6; assumption) | exact Nm.app2 (.fe _) nm_Z6 | exact Nm.app2 nm_rep nm_one | exact ⟨rfl, words_of _ (by decide)⟩ | fail)) (Nm.len (n := 12) (by with_reducible first | exact Nm.fe _ | exact Nm.F2 _ | assumption | exact nm_one | exact nm_Z6 | (refine Nm.seg (m := 12) ?_ (by decide); assumption) | exact Nm.seg (m := 12) (Nm.F2 _) (by decide) | exact Nm.app2 (.fe _) (.fe _) | exact nm_rep | exact nm_Z12 | exact nm_two | (refine Nm.app2 ?_ nm_Z6; assumption) | exact Nm.app2 (.fe _) nm_Z6 | exact Nm.app2 nm_rep nm_one | exact ⟨rfl, words_of _ (by decide)⟩ | fail)) (by with_reducible first | rfl) ?_
    | refine take_eql_f (by rfl) (by rfl) (by rfl) (by rfl) eqok2 gd2 (Nm.len (n := 12) (by with_reducible first | exact Nm.fe _ | exact Nm.F2 _ | assumption | exact nm_one | exact nm_Z6 | (refine Nm.seg (m := 12) ?_ (by decide); assumption) | exact Nm.seg (m := 12) (Nm.F2 _) (by decide) | exact Nm.app2 (.fe _) (.fe _) | exact nm_rep | exact nm_Z12 | exact nm_two | (refine Nm.app2 ?_ nm_Z6; assumption) | exact Nm.app2 (.fe _) nm_Z6 | exact Nm.app2 nm_rep nm_one | exact ⟨rfl, words_of _ (by decide)⟩ | fail)) (Nm.len (n := 12) (by with_reducible first | exact Nm.fe _ | exact Nm.F2 _ | assumption | exact nm_one | exact nm_Z6 | (refine Nm.seg (m := 12) ?_ (by decide); assumption) | exact Nm.seg (m := 12) (Nm.F2 _) (by decide) | exact Nm.app2 (.fe _) (.fe _) | exact nm_rep | exact nm_Z12 | exact nm_two | (refine Nm.app2 ?_ nm_Z6; assumption) | exact Nm.app2 (.fe _) nm_Z6 | exact Nm.app2 nm_rep nm_one | exact ⟨rfl, words_of _ (by decide)⟩ | fail)) (by with_reducible first | assumption) ?_
    | refine take_neq_f (by rfl) (by rfl) (by rfl) (by rfl) eqok2 gd2 (Nm.len (n := 12) (by with_reducible first | exact Nm.fe _ | exact Nm.F2 _ | assumption | exact nm_one | exact nm_Z6 | (refine Nm.seg (m := 12) ?_ (by decide); assumption) | exact Nm.seg (m := 12) (Nm.F2 _) (by decide) | exact Nm.app2 (.fe _) (.fe _) | exact nm_rep | exact nm_Z12 | exact nm_two | (refine Nm.app2 ?_ nm_Z6; assumption) | exact Nm.app2 (.fe _) nm_Z6 | exact Nm.app2 nm_rep nm_one | exact ⟨rfl, words_of _ (by decide)⟩ | fail)) (Nm.len (n := 12) (by with_reducible first | exact Nm.fe _ | exact Nm.F2 _ | assumption | exact nm_one | exact nm_Z6 | (refine Nm.seg (m := 12) ?_ (by decide); assumption) | exact Nm.seg (m := 12) (Nm.F2 _) (by decide) | exact Nm.app2 (.fe _) (.fe _) | exact nm_rep | exact nm_Z12 | exact nm_two | (refine Nm.app2 ?_ nm_Z6; assumption) | exact Nm.app2 (.fe _) nm_Z6 | exact Nm.app2 nm_rep nm_one | exact ⟨rfl, words_of _ (by decide)⟩ | fail)) (by with_reducible first | assumption) ?_
    | refine take_load (by rfl) 24 (by rfl) (g := S) (n := 6) (by rfl) (t := 26) (xs := a) (fun w hw => hw.has qa6 (Nat.ne_of_lt qa6.lt)) Tryd.underlying24 rfl (by kernel_rfl) (by rw [ha.len]; decide) ?_
    | refine take_loadw (by rfl) 26 (by rfl) (g := S) (n := 12) (by rfl) (t := 26) (xs := a) (fun w hw => hw.has qa6 (Nat.ne_of_lt qa6.lt)) Tryd.underlying26 rfl (by kernel_rfl) ha.len ?_
    | refine take_load (by rfl) 24 (by rfl) (g := S + 1) (n := 6) (by rfl) (t := 26) (xs := b) (fun w hw => hw.has qb6 (Nat.ne_of_lt qb6.lt)) Tryd.underlying24 rfl (by kernel_rfl) (by rw [hb.len]; decide) ?_
    | refine take_loadw (by rfl) 26 (by rfl) (g := S + 1) (n := 12) (by rfl) (t := 26) (xs := b) (fun w hw => hw.has qb6 (Nat.ne_of_lt qb6.lt)) Tryd.underlying26 rfl (by kernel_rfl) hb.len ?_
    | refine take_load (by rfl) 24 (by rfl) (g := w2.heap.size) (n := 6) (by rfl) (t := 26) (xs := M) (fun w hw => hw.has qm6 (Nat.ne_of_lt qm6.lt)) Tryd.underlying24 rfl (by kernel_rfl) (by rw [LM.out]; decide) ?_
    | refine take_loadw (by rfl) 26 (by rfl) (g := w2.heap.size) (n := 12) (by rfl) (t := 26) (xs := M) (fun w hw => hw.has qm6 (Nat.ne_of_lt qm6.lt)) Tryd.underlying26 rfl (by kernel_rfl) LM.out ?_
    | refine take_load (by rfl) 24 (by rfl) (g := w4.heap.size) (n := 6) (by rfl) (t := 26) (xs := V) (fun w hw => hw.has qx6 (Nat.ne_of_lt qx6.lt)) Tryd.underlying24 rfl (by kernel_rfl) (by rw [LV.out]; decide) ?_
    | refine take_loadw (by rfl) 26 (by rfl) (g := w4.heap.size) (n := 12) (by rfl) (t := 26) (xs := V) (fun w hw => hw.has qx6 (Nat.ne_of_lt qx6.lt)) Tryd.underlying26 rfl (by kernel_rfl) LV.out ?_
    | refine wpTake_cons (.inl ⟨by rfl, fun w hw => (by unfold Oper.quietAt; go_simp; (first | with_reducible refine P4.out _ (HD.out _ (hb6.trans (hw.below (HSS.out _ hb6) (HSS.out _ hb6)))) | with_reducible refine P5.out _ (HD.out _ (hb6.trans (hw.below (HSS.out _ hb6) (HSS.out _ hb6))))) <;> (with_reducible first | exact Nm.fe _ | exact Nm.F2 _ | assumption | exact nm_one | exact nm_Z6 | (refine Nm.seg (m := 12) ?_ (by decide); assumption) | exact Nm.seg (m := 12) (Nm.F2 _) (by decide) | exact Nm.app2 (.fe _) (.fe _) | exact nm_rep | exact nm_Z12 | exact nm_two | (refine Nm.app2 ?_ nm_Z6; assumption) | exact Nm.app2 (.fe _) nm_Z6 | exact Nm.app2 nm_rep nm_one | exact ⟨rfl, words_of _ (by decide)⟩ | fail))⟩) ?_
    | refine take_skip (by rfl) ?_
    | refine wpTake_cons (Steady.of_yields (Or.inl ⟨by rfl, fun w => (by first | (go_simp; done) | (go_simp; with_reducible rfl))⟩)) ?_); simp only [List.getElem_toArray, List.getElem_cons_zero, List.getElem_cons_succ, Act.put, List.setIfInBounds_toArray, List.set_cons_zero, List.set_cons_succ])
  refine wpTake_nil ?_
  refine wpAnyU_end (by kernel_rfl) (fun w7 hq0 => ?_)
  have hq := (drawn_below w6).trans hq0
  have qa7 := qa6.keep hq
  have qb7 := qb6.keep hq
  have qm7 := qm6.keep hq
  have qx7 := qx6.keep hq
  have hb7 := hb6.trans (hq.mono (HSS.out _ hb6))
  clear hq0 hq hb6 qa6 qb6 qm6 qx6
  go_wp2
  go_ret
  exact ⟨rfl, hb7⟩

set_option maxRecDepth 100000 in
set_option maxHeartbeats 4000000 in
theorem products_w (a : List Int) (ha : Nm 12 a) (b : List Int) (hb : Nm 12 b) (w : World) (hG : GlobD w) : Calls Tryd.prog 6 #[.agg (vals .u64 a), .agg (vals .u64 b)] w fun e w' => e = .returned (.bool true) ∧ Below w.heap.size w w' := by
  by_cases hz : Z2 (gm (v2 a) (v2 b))
  · exact products_zero a ha b hb w hG hz
  · cases h1 : gsq (v2 a) <;> cases h2 : gsq (v2 b)
    · exact products_00 a ha b hb w hG hz h1 h2
    · exact products_01 a ha b hb w hG hz h1 h2
    · exact products_10 a ha b hb w hG hz h1 h2
    · exact products_11 a ha b hb w hG hz h1 h2

end Go.Proofs.YtoogmgckbalboaaDoor.Fp2r
