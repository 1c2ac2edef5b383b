/-
  Own text. The walk of layer 4's statement that answers are below p.
-/
import Derived.Test.YtpkfknmpegieaaaDoorFpLaws3
import Derived.Test.YtpkfknmpegieaaaDoorLimbOwnB
import Derived.Test.YtpkfknmpegieaaaDoorMReg
namespace Go.Proofs.YtpkfknmpegieaaaDoor.Fp
set_option linter.unusedVariables false
set_option linter.unusedSimpArgs false
open Go Go.RowKit Go.Proofs.YtpkfknmpegieaaaDoor.Reg Go.Proofs.YtpkfknmpegieaaaDoor.Base Go.Proofs.YtpkfknmpegieaaaDoor.Limb Go.Proofs.YtpkfknmpegieaaaDoor.Bits

theorem cmp_p {x : List Int} (h : num x < PP) : cmpL x pL = -1 := by unfold cmpL; rw [num_pL, if_pos h]
theorem y_facts (v : Int) : addL (fe v) pL = wd 6 (num (fe v) + PP) ∧ addC (fe v) pL = 0 ∧ num (wd 6 (num (fe v) + PP)) = num (fe v) + PP := by
  have b := fe_mod v
  have hn := num_fe v
  have hp := PP_lt
  refine ⟨by rw [addL, fe_len, pL_len, Nat.max_self, num_pL], ?_, num_wd_of (by omega) (by omega)⟩
  rw [addC, fe_len, pL_len, Nat.max_self, num_pL]
  exact Int.ediv_eq_zero_of_lt (by omega) (by omega)
theorem fe_plus (v : Int) : fe (num (fe v) + PP) = fe v := by rw [fe_addl]; exact fe_congr (by rw [Int.add_emod_right])

set_option maxRecDepth 100000 in
set_option maxHeartbeats 4000000 in
theorem fpBelow_w (a : List Int) (hla : a.length = 6) (hwa : Words a) (b : List Int) (hlb : b.length = 6) (hwb : Words b) (w : World) (hG : GlobD w) : Calls Tryd.prog 10 #[.agg (vals .u64 a), .agg (vals .u64 b)] w fun e w' => e = .returned (.bool true) ∧ Below w.heap.size w w' := by
  obtain ⟨ya, yc, yn⟩ := y_facts (num a)
  have hfp := fe_plus (num a)
  have cx := cmp_p (x := fe (num a)) (by rw [num_fe]; exact (fe_mod _).2)
  have cm := cmp_p (x := fe (num a * num b)) (by rw [num_fe]; exact (fe_mod _).2)
  have cd := cmp_p (x := fe (num a + num b)) (by rw [num_fe]; exact (fe_mod _).2)
  obtain ⟨y, hy⟩ : ∃ o, wd 6 (num (fe (num a)) + PP) = o := ⟨_, rfl⟩
  have hly : y.length = 6 := by rw [← hy]; exact wd_len _ _
  have hwy : Words y := by rw [← hy]; exact wd_words _ _
  rw [hy] at ya yn
  have ny : fe (num y) = fe (num a) := by rw [yn]; exact hfp
  have A1 : Keep _ := ⟨fun w (hG : Glob w) => fpReduce_c a hla hwa w hG⟩
  have A2 : Keep _ := ⟨fun w (hG : Glob w) => fpMul_c a hla hwa b hlb hwb w hG⟩
  have A3 : Keep _ := ⟨fun w (hG : Glob w) => fpAdd_c a hla hwa b hlb hwb w hG⟩
  have A4 : Keep _ := ⟨fun w (hG : Glob w) => fpReduce_c y hly hwy w hG⟩
  have A5 : Keep _ := ⟨fun w (hG : Glob w) => fpMul_c y hly hwy b hlb hwb w hG⟩
  have A6 : Keep _ := ⟨fun w (hG : Glob w) => fpAdd_c y hly hwy b hlb hwb w hG⟩
  have A7 : Keep _ := ⟨fun w (hG : Glob w) => fpBytes_c y hly hwy w hG⟩
  have A8 : Keep _ := ⟨fun w (hG : Glob w) => fpBytes_c a hla hwa w hG⟩
  rw [ny] at A4 A7
  rw [← fe_mull, ny, fe_mull] at A5
  rw [← fe_addl, ny, fe_addl] at A6
  have hwx : Words (fe (num a)) := fe_words _
  have hwm : Words (fe (num a * num b)) := fe_words _
  have hwd : Words (fe (num a + num b)) := fe_words _
  obtain ⟨x, hx⟩ : ∃ o, fe (num a) = o := ⟨_, rfl⟩
  obtain ⟨m, hm⟩ : ∃ o, fe (num a * num b) = o := ⟨_, rfl⟩
  obtain ⟨d, hd⟩ : ∃ o, fe (num a + num b) = o := ⟨_, rfl⟩
  obtain ⟨t, ht⟩ : ∃ o, octL (fe (num a)) 48 = o := ⟨_, rfl⟩
  have Lx : Keep (x.length = 6) := ⟨by rw [← hx]; exact fe_len _⟩
  have Lm : Keep (m.length = 6) := ⟨by rw [← hm]; exact fe_len _⟩
  have Ld : Keep (d.length = 6) := ⟨by rw [← hd]; exact fe_len _⟩
  have Ly : Keep (y.length = 6) := ⟨hly⟩
  have LP : Keep (pL.length = 6) := ⟨rfl⟩
  have Et := eq48 t (by rw [← ht]; exact octL_len _ _)
  have Ex := eq6 x Lx.out
  have Em := eq6 m Lm.out
  have Ed := eq6 d Ld.out
  rw [ht] at A7 A8
  rw [hx] at A1 A4 ya yc cx hwx
  rw [hm] at A2 A5 cm hwm
  rw [hd] at A3 A6 cd hwd
  have hgd2 := gd48
  have P1 : Keep (∀ w' g g', Has w' g 25 (vals .u64 x) → Has w' g' 25 (vals .u64 pL) → Calls Tryd.prog 41 #[.slice (some ⟨g, 0, none⟩) 6 6, .slice (some ⟨g', 0, none⟩) 6 6] w' fun e w'' => ∃ A'' c'', e = .returned (.tuple #[.slice A'' 6 c'', .int .u64 0]) ∧ Frs w'' w'.heap.size A'' 6 .u64 y ∧ Below w'.heap.size w' w'') := ⟨fun w' g g' h h' => by
    have h1 := add_c (some ⟨g, 0, none⟩) 6 6 x (some ⟨g', 0, none⟩) 6 6 pL w'.heap.size w' (Rd.of_has h h.lt (by rw [List.drop_zero, take_all Lx.out]) (by rw [Lx.out]; omega)) hwx (Rd.of_has h' h'.lt (by rw [List.drop_zero, take_all LP.out]) (by rw [LP.out]; omega)) pL_words (Nat.le_refl _) (by omega) (by omega)
    rw [ya, yc, Nat.max_self] at h1
    exact h1⟩
  have CM : ∀ z : List Int, z.length = 6 → Words z → cmpL z pL = -1 → ∀ w' g g', Has w' g 25 (vals .u64 z) → Has w' g' 25 (vals .u64 pL) → Calls Tryd.prog 42 #[.slice (some ⟨g, 0, none⟩) 6 6, .slice (some ⟨g', 0, none⟩) 6 6] w' fun e w'' => e = .returned (.int .i64 (-1)) ∧ Below w'.heap.size w' w'' := fun z hl hw hc w' g g' h h' => by
    have h1 := cmp_c (some ⟨g, 0, none⟩) 6 6 z (some ⟨g', 0, none⟩) 6 6 pL w'.heap.size w' (Rd.of_has h h.lt (by rw [List.drop_zero, take_all hl]) (by rw [hl]; omega)) hw (Rd.of_has h' h'.lt (by rw [List.drop_zero, take_all LP.out]) (by rw [LP.out]; omega)) pL_words (Nat.le_refl _) (by omega) (by omega)
    rw [hc] at h1
    exact h1
  have C1 : Keep _ := ⟨CM x Lx.out hwx cx⟩
  have C2 : Keep _ := ⟨CM m Lm.out hwm cm⟩
  have C3 : Keep _ := ⟨CM d Ld.out hwd cd⟩
  obtain ⟨y0, y1, y2, y3, y4, y5, rfl⟩ := six hly
  have hgd := gd6
  have HG : Keep (∀ x : World, Below w.heap.size w x → Glob x) := ⟨fun x h => hG.toGlob.keep h⟩
  have HD : Keep (∀ x : World, Below w.heap.size w x → GlobD x) := ⟨fun x h => hG.keep h⟩
  clear hG
  have qa0 : Has ((w.alloc (.cells (vals .u64 a) 25)).alloc (.cells (vals .u64 b) 25)) (w.heap.size) 25 (vals .u64 a) := ((Has.new _ _ _).alloc _)
  have qb0 : Has ((w.alloc (.cells (vals .u64 a) 25)).alloc (.cells (vals .u64 b) 25)) (w.heap.size + 1) 25 (vals .u64 b) := (Has.new' _ (by simp) _ _)
  have hb0 : Below w.heap.size w ((w.alloc (.cells (vals .u64 a) 25)).alloc (.cells (vals .u64 b) 25)) := (((Below.refl _ _).alloc (by simp <;> omega) _).alloc (by simp <;> omega) _)
  have La : Keep _ := ⟨hla⟩
  have Wa : Keep _ := ⟨hwa⟩
  have Lb : Keep _ := ⟨hlb⟩
  have Wb : Keep _ := ⟨hwb⟩
  clear hx hm hd ht hy ya yc yn ny hfp cx cm cd hwx hwm hwd CM hla hwa hlb hwb hly hwy
  go_enter Tryd.func10, Tryd.ntmps10
  go_wp2_with (first
    | (refine store_abs2 (by rfl) 25 (.tmp 7) (.tmp 16) (by rfl) (by rfl) w4.heap.size (vals .u64 x) (by rfl) (by rfl) 25 (vals .u64 Z6) (Has.new' _ rfl _ _) (by rw [vals_size, Lx.out]; kernel_rfl) (by first | rfl | (rw [vals_size, vals_size, Lx.out]; rfl)) vals_one ?_
       intro w5 qx5 hkeep hbg
       have hbe := ((Below.refl w4.heap.size w4).alloc (Nat.le_refl _) (.cells (vals .u64 Z6) 25)).trans hbg
       have qa5 := qa4.keep hbe
       have qb5 := qb4.keep hbe
       have qp5 := qp4.keep hbe
       have hb5 := hb4.trans (hbe.mono hb4.size)
       clear hkeep hbg hbe hb4 qa4 qb4 qp4)
    | (go_at_call 21
       refine (A1.out _ (HG.out _ hb3)).mono ?_
       rintro e w4 ⟨rfl, hq⟩
       have qa4 := qa3.keep hq
       have qb4 := qb3.keep hq
       have qp4 := qp3.keep hq
       have hb4 := hb3.trans (hq.mono hb3.size)
       clear hq hb3 qa3 qb3 qp3)
    | (refine wpList_load_row rfl 25 (.tmp 2) rfl (w.heap.size) rfl _ _ _ _ qa3.eq Tryd.underlying25 rfl (by rw [vals_size, La.out]; kernel_rfl) ?_)
    | (refine store_abs2 (by rfl) 25 (.tmp 6) (.tmp 14) (by rfl) (by rfl) w2.heap.size (vals .u64 pL) (by rfl) (by rfl) 25 (vals .u64 Z6) (Has.new' _ rfl _ _) (by rw [vals_size, LP.out]; kernel_rfl) (by first | rfl | (rw [vals_size, vals_size, LP.out]; rfl)) vals_one ?_
       intro w3 qp3 hkeep hbg
       have hbe := ((Below.refl w2.heap.size w2).alloc (Nat.le_refl _) (.cells (vals .u64 Z6) 25)).trans hbg
       have qa3 := qa2.keep hbe
       have qb3 := qb2.keep hbe
       have hb3 := hb2.trans (hbe.mono hb2.size)
       clear hkeep hbg hbe hb2 qa2 qb2)
    | (go_at_call 19
       refine (fpP_c _ (HG.out _ hb1)).mono ?_
       rintro e w2 ⟨rfl, hq⟩
       have qa2 := qa1.keep hq
       have qb2 := qb1.keep hq
       have hb2 := hb1.trans (hq.mono hb1.size)
       clear hq hb1 qa1 qb1)
    | (go_at_call 18
       refine (awake_c _ (HD.out _ hb0)).mono ?_
       rintro e w1 ⟨rfl, hq⟩
       have qa1 := qa0.keep hq
       have qb1 := qb0.keep hq
       have hb1 := hb0.trans (hq.mono hb0.size)
       clear hq hb0 qa0 qb0))
  refine wp_one [0, 1] 2 (by kernel_rfl) (by rfl) (by kernel_rfl) (by kernel_rfl) (fun _ _ d _ _ h => by cases d <;> exact h) ?_
  simp only [List.filterMap_cons, List.filterMap_nil, List.getElem?_cons_zero, List.getElem?_cons_succ]
  refine ⟨_, Or.inl ⟨by rfl, fun w => (by go_simp; with_reducible rfl)⟩, ?_⟩
  simp only [Act.put, List.setIfInBounds_toArray, List.set_cons_zero, List.set_cons_succ]
  refine ⟨_, Or.inl ⟨by rfl, fun w => (by go_simp; with_reducible rfl)⟩, ?_⟩
  simp only [Act.put, List.setIfInBounds_toArray, List.set_cons_zero, List.set_cons_succ]
  refine ⟨_, rfl, ?_⟩
  refine wpList_own (by rfl) ?_
  have qa6 := qa5.drew
  have qb6 := qb5.drew
  have qp6 := qp5.drew
  have qx6 := qx5.drew
  have hbd : Below w5.heap.size w5 w5.drew := ⟨rfl, rfl, rfl, Nat.le_refl _, fun _ _ => rfl⟩
  have hb6 := hb5.trans (hbd.mono hb5.size)
  clear qa5 qb5 qp5 qx5 hb5 hbd
  generalize w5.drew = w6 at *
  go_wp2_with (first
    | (go_at_call 41
       refine (P1.out _ _ _ qx6 qp6).mono ?_
       rintro e w7 ⟨As, cs, rfl, hF, hq⟩
       have qa7 := qa6.keep hq
       have qb7 := qb6.keep hq
       have qp7 := qp6.keep hq
       have qx7 := qx6.keep hq
       have hb7 := hb6.trans (hq.mono hb6.size)
       clear hq hb6 qa6 qb6 qp6 qx6))
  simp only [quietThen, List.drop_succ_cons, List.drop_zero]
  intro I hI' fw hf hback
  repeat (go_big_quiet_step (fail))
  refine wpQuiet_nil ?_
  intro w71 hq
  have qa71 := qa7.keep hq
  have qb71 := qb7.keep hq
  have qp71 := qp7.keep hq
  have qx71 := qx7.keep hq
  have hb71 := hb7.trans (hq.mono hb7.size)
  have hF1 := hF.rd.keep hq (Nat.le_refl _)
  have hlt7 := hq.size
  clear hf hback hq qa7 qb7 qp7 qx7 hb7 hF
  go_wp2
  obtain ⟨b1, o1, rfl, hlt1, hcs⟩ := hF1.at_ (by omega)
  have hdr : Below w71.heap.size w71 w71.drew := ⟨rfl, rfl, rfl, Nat.le_refl _, fun _ _ => rfl⟩
  have HS : Keep (∀ w w' : World, Below w71.heap.size w71 w → Below w.heap.size w w' → Below w71.heap.size w71 w') := ⟨fun w w' h hb => below_tr h hb⟩
  have K0 : Keep (∀ w', Below w71.heap.size w71 w' → w'.cell? ⟨b1, o1, none⟩ = some (.int .u64 y0)) := ⟨fun w' hb => (hb.cell (p := ⟨b1, o1, none⟩) (by show b1 < w71.heap.size; omega)).trans (hcs 0 (by omega))⟩
  have K1 : Keep (∀ w', Below w71.heap.size w71 w' → w'.cell? ⟨b1, o1 + 1, none⟩ = some (.int .u64 y1)) := ⟨fun w' hb => (hb.cell (p := ⟨b1, o1 + 1, none⟩) (by show b1 < w71.heap.size; omega)).trans (hcs 1 (by omega))⟩
  have K2 : Keep (∀ w', Below w71.heap.size w71 w' → w'.cell? ⟨b1, o1 + 2, none⟩ = some (.int .u64 y2)) := ⟨fun w' hb => (hb.cell (p := ⟨b1, o1 + 2, none⟩) (by show b1 < w71.heap.size; omega)).trans (hcs 2 (by omega))⟩
  have K3 : Keep (∀ w', Below w71.heap.size w71 w' → w'.cell? ⟨b1, o1 + 3, none⟩ = some (.int .u64 y3)) := ⟨fun w' hb => (hb.cell (p := ⟨b1, o1 + 3, none⟩) (by show b1 < w71.heap.size; omega)).trans (hcs 3 (by omega))⟩
  have K4 : Keep (∀ w', Below w71.heap.size w71 w' → w'.cell? ⟨b1, o1 + 4, none⟩ = some (.int .u64 y4)) := ⟨fun w' hb => (hb.cell (p := ⟨b1, o1 + 4, none⟩) (by show b1 < w71.heap.size; omega)).trans (hcs 4 (by omega))⟩
  have K5 : Keep (∀ w', Below w71.heap.size w71 w' → w'.cell? ⟨b1, o1 + 5, none⟩ = some (.int .u64 y5)) := ⟨fun w' hb => (hb.cell (p := ⟨b1, o1 + 5, none⟩) (by show b1 < w71.heap.size; omega)).trans (hcs 5 (by omega))⟩
  refine wp_regionU (S := fun x => Below w71.heap.size w71 x) (by kernel_rfl) ?_
  change wpAnyU _ _ _ _ _ 21 _ _ _
  refine wpAnyU_take (i := 0) (v := _) HS.out (by rfl) (by kernel_rfl) (by kernel_rfl) (by kernel_rfl) (fun _ _ d _ _ h => by cases d <;> exact h) hdr (Steady.of_yields (Or.inl ⟨by rfl, fun w => (by go_simp; with_reducible rfl)⟩)) ?_
  simp only [List.getElem_toArray, List.getElem_cons_zero, List.getElem_cons_succ, Act.put, List.setIfInBounds_toArray, List.set_cons_zero, List.set_cons_succ]
  refine wpAnyU_take (i := 1) (v := _) HS.out (by rfl) (by kernel_rfl) (by kernel_rfl) (by kernel_rfl) (fun _ _ d _ _ h => by cases d <;> exact h) hdr (Steady.of_yields (Or.inl ⟨by rfl, fun w => (by go_simp; with_reducible rfl)⟩)) ?_
  simp only [List.getElem_toArray, List.getElem_cons_zero, List.getElem_cons_succ, Act.put, List.setIfInBounds_toArray, List.set_cons_zero, List.set_cons_succ]
  refine wpAnyU_take (i := 2) (v := .int .u64 y0) HS.out (by rfl) (by kernel_rfl) (by kernel_rfl) (by kernel_rfl) (fun _ _ d _ _ h => by cases d <;> exact h) hdr (Or.inl ⟨by rfl, fun w hw => (by unfold Oper.quietAt; have c := K0.out w hw; go_simp)⟩) ?_
  simp only [List.getElem_toArray, List.getElem_cons_zero, List.getElem_cons_succ, Act.put, List.setIfInBounds_toArray, List.set_cons_zero, List.set_cons_succ]
  refine wpAnyU_take (i := 3) (v := _) HS.out (by rfl) (by kernel_rfl) (by kernel_rfl) (by kernel_rfl) (fun _ _ d _ _ h => by cases d <;> exact h) hdr (Steady.of_yields (Or.inl ⟨by rfl, fun w => (by go_simp; with_reducible rfl)⟩)) ?_
  simp only [List.getElem_toArray, List.getElem_cons_zero, List.getElem_cons_succ, Act.put, List.setIfInBounds_toArray, List.set_cons_zero, List.set_cons_succ]
  refine wpAnyU_take (i := 4) (v := _) HS.out (by rfl) (by kernel_rfl) (by kernel_rfl) (by kernel_rfl) (fun _ _ d _ _ h => by cases d <;> exact h) hdr (Steady.of_yields (Or.inl ⟨by rfl, fun w => (by go_simp; with_reducible rfl)⟩)) ?_
  simp only [List.getElem_toArray, List.getElem_cons_zero, List.getElem_cons_succ, Act.put, List.setIfInBounds_toArray, List.set_cons_zero, List.set_cons_succ]
  refine wpAnyU_take (i := 5) (v := .int .u64 y1) HS.out (by rfl) (by kernel_rfl) (by kernel_rfl) (by kernel_rfl) (fun _ _ d _ _ h => by cases d <;> exact h) hdr (Or.inl ⟨by rfl, fun w hw => (by unfold Oper.quietAt; have c := K1.out w hw; go_simp)⟩) ?_
  simp only [List.getElem_toArray, List.getElem_cons_zero, List.getElem_cons_succ, Act.put, List.setIfInBounds_toArray, List.set_cons_zero, List.set_cons_succ]
  refine wpAnyU_take (i := 6) (v := _) HS.out (by rfl) (by kernel_rfl) (by kernel_rfl) (by kernel_rfl) (fun _ _ d _ _ h => by cases d <;> exact h) hdr (Steady.of_yields (Or.inl ⟨by rfl, fun w => (by go_simp; with_reducible rfl)⟩)) ?_
  simp only [List.getElem_toArray, List.getElem_cons_zero, List.getElem_cons_succ, Act.put, List.setIfInBounds_toArray, List.set_cons_zero, List.set_cons_succ]
  refine wpAnyU_take (i := 7) (v := _) HS.out (by rfl) (by kernel_rfl) (by kernel_rfl) (by kernel_rfl) (fun _ _ d _ _ h => by cases d <;> exact h) hdr (Steady.of_yields (Or.inl ⟨by rfl, fun w => (by go_simp; with_reducible rfl)⟩)) ?_
  simp only [List.getElem_toArray, List.getElem_cons_zero, List.getElem_cons_succ, Act.put, List.setIfInBounds_toArray, List.set_cons_zero, List.set_cons_succ]
  refine wpAnyU_take (i := 8) (v := .int .u64 y2) HS.out (by rfl) (by kernel_rfl) (by kernel_rfl) (by kernel_rfl) (fun _ _ d _ _ h => by cases d <;> exact h) hdr (Or.inl ⟨by rfl, fun w hw => (by unfold Oper.quietAt; have c := K2.out w hw; go_simp)⟩) ?_
  simp only [List.getElem_toArray, List.getElem_cons_zero, List.getElem_cons_succ, Act.put, List.setIfInBounds_toArray, List.set_cons_zero, List.set_cons_succ]
  refine wpAnyU_take (i := 9) (v := _) HS.out (by rfl) (by kernel_rfl) (by kernel_rfl) (by kernel_rfl) (fun _ _ d _ _ h => by cases d <;> exact h) hdr (Steady.of_yields (Or.inl ⟨by rfl, fun w => (by go_simp; with_reducible rfl)⟩)) ?_
  simp only [List.getElem_toArray, List.getElem_cons_zero, List.getElem_cons_succ, Act.put, List.setIfInBounds_toArray, List.set_cons_zero, List.set_cons_succ]
  refine wpAnyU_take (i := 10) (v := _) HS.out (by rfl) (by kernel_rfl) (by kernel_rfl) (by kernel_rfl) (fun _ _ d _ _ h => by cases d <;> exact h) hdr (Steady.of_yields (Or.inl ⟨by rfl, fun w => (by go_simp; with_reducible rfl)⟩)) ?_
  simp only [List.getElem_toArray, List.getElem_cons_zero, List.getElem_cons_succ, Act.put, List.setIfInBounds_toArray, List.set_cons_zero, List.set_cons_succ]
  refine wpAnyU_take (i := 11) (v := .int .u64 y3) HS.out (by rfl) (by kernel_rfl) (by kernel_rfl) (by kernel_rfl) (fun _ _ d _ _ h => by cases d <;> exact h) hdr (Or.inl ⟨by rfl, fun w hw => (by unfold Oper.quietAt; have c := K3.out w hw; go_simp)⟩) ?_
  simp only [List.getElem_toArray, List.getElem_cons_zero, List.getElem_cons_succ, Act.put, List.setIfInBounds_toArray, List.set_cons_zero, List.set_cons_succ]
  refine wpAnyU_take (i := 12) (v := _) HS.out (by rfl) (by kernel_rfl) (by kernel_rfl) (by kernel_rfl) (fun _ _ d _ _ h => by cases d <;> exact h) hdr (Steady.of_yields (Or.inl ⟨by rfl, fun w => (by go_simp; with_reducible rfl)⟩)) ?_
  simp only [List.getElem_toArray, List.getElem_cons_zero, List.getElem_cons_succ, Act.put, List.setIfInBounds_toArray, List.set_cons_zero, List.set_cons_succ]
  refine wpAnyU_take (i := 13) (v := _) HS.out (by rfl) (by kernel_rfl) (by kernel_rfl) (by kernel_rfl) (fun _ _ d _ _ h => by cases d <;> exact h) hdr (Steady.of_yields (Or.inl ⟨by rfl, fun w => (by go_simp; with_reducible rfl)⟩)) ?_
  simp only [List.getElem_toArray, List.getElem_cons_zero, List.getElem_cons_succ, Act.put, List.setIfInBounds_toArray, List.set_cons_zero, List.set_cons_succ]
  refine wpAnyU_take (i := 14) (v := .int .u64 y4) HS.out (by rfl) (by kernel_rfl) (by kernel_rfl) (by kernel_rfl) (fun _ _ d _ _ h => by cases d <;> exact h) hdr (Or.inl ⟨by rfl, fun w hw => (by unfold Oper.quietAt; have c := K4.out w hw; go_simp)⟩) ?_
  simp only [List.getElem_toArray, List.getElem_cons_zero, List.getElem_cons_succ, Act.put, List.setIfInBounds_toArray, List.set_cons_zero, List.set_cons_succ]
  refine wpAnyU_take (i := 15) (v := _) HS.out (by rfl) (by kernel_rfl) (by kernel_rfl) (by kernel_rfl) (fun _ _ d _ _ h => by cases d <;> exact h) hdr (Steady.of_yields (Or.inl ⟨by rfl, fun w => (by go_simp; with_reducible rfl)⟩)) ?_
  simp only [List.getElem_toArray, List.getElem_cons_zero, List.getElem_cons_succ, Act.put, List.setIfInBounds_toArray, List.set_cons_zero, List.set_cons_succ]
  refine wpAnyU_take (i := 16) (v := _) HS.out (by rfl) (by kernel_rfl) (by kernel_rfl) (by kernel_rfl) (fun _ _ d _ _ h => by cases d <;> exact h) hdr (Steady.of_yields (Or.inl ⟨by rfl, fun w => (by go_simp; with_reducible rfl)⟩)) ?_
  simp only [List.getElem_toArray, List.getElem_cons_zero, List.getElem_cons_succ, Act.put, List.setIfInBounds_toArray, List.set_cons_zero, List.set_cons_succ]
  refine wpAnyU_take (i := 17) (v := .int .u64 y5) HS.out (by rfl) (by kernel_rfl) (by kernel_rfl) (by kernel_rfl) (fun _ _ d _ _ h => by cases d <;> exact h) hdr (Or.inl ⟨by rfl, fun w hw => (by unfold Oper.quietAt; have c := K5.out w hw; go_simp)⟩) ?_
  simp only [List.getElem_toArray, List.getElem_cons_zero, List.getElem_cons_succ, Act.put, List.setIfInBounds_toArray, List.set_cons_zero, List.set_cons_succ]
  refine wpAnyU_take (i := 18) (v := _) HS.out (by rfl) (by kernel_rfl) (by kernel_rfl) (by kernel_rfl) (fun _ _ d _ _ h => by cases d <;> exact h) hdr (Steady.build (by rfl) 25 #[(0, .tmp 36), (1, .tmp 39), (2, .tmp 42), (3, .tmp 45), (4, .tmp 48), (5, .tmp 51)] (by rfl) (vals .u64 [y0, y1, y2, y3, y4, y5]) (by kernel_rfl)) ?_
  simp only [List.getElem_toArray, List.getElem_cons_zero, List.getElem_cons_succ, Act.put, List.setIfInBounds_toArray, List.set_cons_zero, List.set_cons_succ]
  refine wpAnyU_run (i := 19) (by rfl) (by kernel_rfl) (fun w8 hq => ?_)
  have hq8 := below_tr hdr hq
  have qa8 := qa71.keep hq8
  have qb8 := qb71.keep hq8
  have qp8 := qp71.keep hq8
  have qx8 := qx71.keep hq8
  have hb8 := hb71.trans (hq8.mono hb71.size)
  clear hq hcs hF1 hb71 K0 K1 K2 K3 K4 K5 HS qa71 qb71 qp71 qx71
  refine wpList_own (by rfl) ?_
  go_wp2
  refine ⟨hq8.alloc hq8.size _, ?_⟩
  refine wpAnyU_run (i := 20) (by rfl) (by kernel_rfl) (fun w82 hq => ?_)
  refine wpList_own (by rfl) ?_
  go_wp2_with (refine store_abs2 (by rfl) 25 (.tmp 10) (.tmp 52) (by rfl) (by rfl) w8.heap.size (vals .u64 [y0, y1, y2, y3, y4, y5]) (by rfl) (by rfl) 25 (vals .u64 Z6) ((Has.new' _ rfl _ _).keep hq) (by rw [vals_size, Ly.out]; kernel_rfl) (by first | rfl | (rw [vals_size, vals_size, Ly.out]; rfl)) vals_one ?_
               intro w83 qy83 hkeep hbg
               have hbe := (((Below.refl w8.heap.size w8).alloc (Nat.le_refl _) (.cells (vals .u64 Z6) 25)).trans (hq.mono (by simp))).trans hbg
               clear hkeep hbg hq)
  refine ⟨below_tr hq8 hbe, ?_⟩
  refine wpAnyU_end (by kernel_rfl) (fun w9 hq => ?_)
  have hbe9 := below_tr hbe hq
  have qy9 := qy83.keep hq
  have qa9 := qa8.keep hbe9
  have qb9 := qb8.keep hbe9
  have qp9 := qp8.keep hbe9
  have qx9 := qx8.keep hbe9
  have hb9 := hb8.trans (hbe9.mono hb8.size)
  clear hq hbe hbe9 qy83 hq8 hb8 qa8 qb8 qp8 qx8
  go_wp2_with (first
    | (refine store_abs2 (by rfl) 25 (.tmp 12) (.tmp 58) (by rfl) (by rfl) w12.heap.size (vals .u64 d) (by rfl) (by rfl) 25 (vals .u64 Z6) (Has.new' _ rfl _ _) (by rw [vals_size, Ld.out]; kernel_rfl) (by first | rfl | (rw [vals_size, vals_size, Ld.out]; rfl)) vals_one ?_
       intro w13 qd13 hkeep hbg
       have hbe := ((Below.refl w12.heap.size w12).alloc (Nat.le_refl _) (.cells (vals .u64 Z6) 25)).trans hbg
       have qa13 := qa12.keep hbe
       have qb13 := qb12.keep hbe
       have qp13 := qp12.keep hbe
       have qx13 := qx12.keep hbe
       have qy13 := qy12.keep hbe
       have qm13 := qm12.keep hbe
       have hb13 := hb12.trans (hbe.mono hb12.size)
       clear hkeep hbg hbe hb12 qa12 qb12 qp12 qx12 qy12 qm12)
    | (go_at_call 23
       refine (A3.out _ (HG.out _ hb11)).mono ?_
       rintro e w12 ⟨rfl, hq⟩
       have qa12 := qa11.keep hq
       have qb12 := qb11.keep hq
       have qp12 := qp11.keep hq
       have qx12 := qx11.keep hq
       have qy12 := qy11.keep hq
       have qm12 := qm11.keep hq
       have hb12 := hb11.trans (hq.mono hb11.size)
       clear hq hb11 qa11 qb11 qp11 qx11 qy11 qm11)
    | (refine wpList_load_row rfl 25 (.tmp 2) rfl (w.heap.size) rfl _ _ _ _ qa11.eq Tryd.underlying25 rfl (by rw [vals_size, La.out]; kernel_rfl) ?_)
    | (refine wpList_load_row rfl 25 (.tmp 3) rfl (w.heap.size + 1) rfl _ _ _ _ qb11.eq Tryd.underlying25 rfl (by rw [vals_size, Lb.out]; kernel_rfl) ?_)
    | (refine store_abs2 (by rfl) 25 (.tmp 11) (.tmp 55) (by rfl) (by rfl) w10.heap.size (vals .u64 m) (by rfl) (by rfl) 25 (vals .u64 Z6) (Has.new' _ rfl _ _) (by rw [vals_size, Lm.out]; kernel_rfl) (by first | rfl | (rw [vals_size, vals_size, Lm.out]; rfl)) vals_one ?_
       intro w11 qm11 hkeep hbg
       have hbe := ((Below.refl w10.heap.size w10).alloc (Nat.le_refl _) (.cells (vals .u64 Z6) 25)).trans hbg
       have qa11 := qa10.keep hbe
       have qb11 := qb10.keep hbe
       have qp11 := qp10.keep hbe
       have qx11 := qx10.keep hbe
       have qy11 := qy10.keep hbe
       have hb11 := hb10.trans (hbe.mono hb10.size)
       clear hkeep hbg hbe hb10 qa10 qb10 qp10 qx10 qy10)
    | (go_at_call 29
       refine (A2.out _ (HG.out _ hb9)).mono ?_
       rintro e w10 ⟨rfl, hq⟩
       have qa10 := qa9.keep hq
       have qb10 := qb9.keep hq
       have qp10 := qp9.keep hq
       have qx10 := qx9.keep hq
       have qy10 := qy9.keep hq
       have hb10 := hb9.trans (hq.mono hb9.size)
       clear hq hb9 qa9 qb9 qp9 qx9 qy9)
    | (refine wpList_load_row rfl 25 (.tmp 2) rfl (w.heap.size) rfl _ _ _ _ qa9.eq Tryd.underlying25 rfl (by rw [vals_size, La.out]; kernel_rfl) ?_)
    | (refine wpList_load_row rfl 25 (.tmp 3) rfl (w.heap.size + 1) rfl _ _ _ _ qb9.eq Tryd.underlying25 rfl (by rw [vals_size, Lb.out]; kernel_rfl) ?_))
  refine wp_fam_all (by kernel_rfl) (by kernel_rfl) (fun I hI' fw hf hback => ?_)
  have HGf : Keep (∀ j, Glob (fw j)) := ⟨fun j => HG.out _ (hb13.trans ((hf j).mono hb13.size))⟩
  have HDf : Keep (∀ j, GlobD (fw j)) := ⟨fun j => HD.out _ (hb13.trans ((hf j).mono hb13.size))⟩
  repeat (first
    | (go_big_quiet_want
       refine quiet_load_seg 25 (.tmp 2) (by rfl) (w.heap.size) 0 6 (by rfl) 25 .u64 a a _ (fun w' ⟨i, hi⟩ => by rw [hi]; exact qa13.keep (hf i)) Tryd.underlying25 rfl (by kernel_rfl) (by rw [List.drop_zero, take_all La.out]) (by rw [La.out]; omega) ?_
       simp only [Act.put, List.setIfInBounds_toArray, List.set_cons_zero, List.set_cons_succ]
       go_big_quiet_on)
    | (go_big_quiet_want
       refine quiet_load_seg 25 (.tmp 3) (by rfl) (w.heap.size + 1) 0 6 (by rfl) 25 .u64 b b _ (fun w' ⟨i, hi⟩ => by rw [hi]; exact qb13.keep (hf i)) Tryd.underlying25 rfl (by kernel_rfl) (by rw [List.drop_zero, take_all Lb.out]) (by rw [Lb.out]; omega) ?_
       simp only [Act.put, List.setIfInBounds_toArray, List.set_cons_zero, List.set_cons_succ]
       go_big_quiet_on)
    | (go_big_quiet_want
       refine quiet_load_seg 25 (.tmp 6) (by rfl) (w2.heap.size) 0 6 (by rfl) 25 .u64 pL pL _ (fun w' ⟨i, hi⟩ => by rw [hi]; exact qp13.keep (hf i)) Tryd.underlying25 rfl (by kernel_rfl) (by rw [List.drop_zero, take_all LP.out]) (by rw [LP.out]; omega) ?_
       simp only [Act.put, List.setIfInBounds_toArray, List.set_cons_zero, List.set_cons_succ]
       go_big_quiet_on)
    | (go_big_quiet_want
       refine quiet_load_seg 25 (.tmp 7) (by rfl) (w4.heap.size) 0 6 (by rfl) 25 .u64 x x _ (fun w' ⟨i, hi⟩ => by rw [hi]; exact qx13.keep (hf i)) Tryd.underlying25 rfl (by kernel_rfl) (by rw [List.drop_zero, take_all Lx.out]) (by rw [Lx.out]; omega) ?_
       simp only [Act.put, List.setIfInBounds_toArray, List.set_cons_zero, List.set_cons_succ]
       go_big_quiet_on)
    | (go_big_quiet_want
       refine quiet_load_seg 25 (.tmp 10) (by rfl) (w8.heap.size) 0 6 (by rfl) 25 .u64 [y0, y1, y2, y3, y4, y5] [y0, y1, y2, y3, y4, y5] _ (fun w' ⟨i, hi⟩ => by rw [hi]; exact qy13.keep (hf i)) Tryd.underlying25 rfl (by kernel_rfl) (by rw [List.drop_zero, take_all Ly.out]) (by rw [Ly.out]; omega) ?_
       simp only [Act.put, List.setIfInBounds_toArray, List.set_cons_zero, List.set_cons_succ]
       go_big_quiet_on)
    | (go_big_quiet_want
       refine quiet_load_seg 25 (.tmp 11) (by rfl) (w10.heap.size) 0 6 (by rfl) 25 .u64 m m _ (fun w' ⟨i, hi⟩ => by rw [hi]; exact qm13.keep (hf i)) Tryd.underlying25 rfl (by kernel_rfl) (by rw [List.drop_zero, take_all Lm.out]) (by rw [Lm.out]; omega) ?_
       simp only [Act.put, List.setIfInBounds_toArray, List.set_cons_zero, List.set_cons_succ]
       go_big_quiet_on)
    | (go_big_quiet_want
       refine quiet_load_seg 25 (.tmp 12) (by rfl) (w12.heap.size) 0 6 (by rfl) 25 .u64 d d _ (fun w' ⟨i, hi⟩ => by rw [hi]; exact qd13.keep (hf i)) Tryd.underlying25 rfl (by kernel_rfl) (by rw [List.drop_zero, take_all Ld.out]) (by rw [Ld.out]; omega) ?_
       simp only [Act.put, List.setIfInBounds_toArray, List.set_cons_zero, List.set_cons_succ]
       go_big_quiet_on)
    | go_big_quiet_step (first | fail | (go_at_call 42; with_reducible exact calls_fam hf hback (C1.out _ _ _ (qx13.keep (hf _)) (qp13.keep (hf _)))) | (go_at_call 42; with_reducible exact calls_fam hf hback (C2.out _ _ _ (qm13.keep (hf _)) (qp13.keep (hf _)))) | (go_at_call 42; with_reducible exact calls_fam hf hback (C3.out _ _ _ (qd13.keep (hf _)) (qp13.keep (hf _)))) | (go_at_call 21; with_reducible exact calls_fam hf hback (A4.out _ (HGf.out _))) | (go_at_call 29; with_reducible exact calls_fam hf hback (A5.out _ (HGf.out _))) | (go_at_call 23; with_reducible exact calls_fam hf hback (A6.out _ (HGf.out _))) | (go_at_call 39; with_reducible exact calls_fam hf hback (A7.out _ (HGf.out _))) | (go_at_call 39; with_reducible exact calls_fam hf hback (A8.out _ (HGf.out _)))))
  refine wpQuiet_nil ?_
  intro w14 hq
  have hb14 := hb13.trans (hq.mono hb13.size)
  clear HDf HGf hf hback hq  hb13 qa13 qb13 qp13 qx13 qy13 qm13 qd13
  go_wp2
  go_ret
  exact ⟨rfl, hb14⟩
end Go.Proofs.YtpkfknmpegieaaaDoor.Fp
