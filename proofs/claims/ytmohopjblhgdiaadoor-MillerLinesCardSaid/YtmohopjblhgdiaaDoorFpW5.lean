/-
  Own text. The contracts of package fp: P, Reduce, Add, Sub, Neg.
-/
import Derived.Test.YtmohopjblhgdiaaDoorFpW4
namespace Go.Proofs.YtmohopjblhgdiaaDoor.Fp
set_option linter.unusedVariables false
open Go Go.RowKit Go.Proofs.YtmohopjblhgdiaaDoor.Reg Go.Proofs.YtmohopjblhgdiaaDoor.Base Go.Proofs.YtmohopjblhgdiaaDoor.Limb Go.Proofs.YtmohopjblhgdiaaDoor.Bits

theorem Z6_wd : Words Z6 := words_of _ (by decide)
theorem num_Z6' : num Z6 = 0 := by decide +kernel
theorem sum_once {x y : Int} {o o' : List Int} {d : Int} (hl : o.length = 6) (hw : Words o) (hl' : o'.length = 6) (hw' : Words o') (hs : num o + wp 6 * d = num (fe x) + num (fe y)) (hd0 : 0 ≤ d) (hd1 : d ≤ 1) (he : num o' = if num o < PP then num o else num o - PP) : o' = fe (x + y) := by
  have h1 := fe_mod x
  have h2 := fe_mod y
  have h3 := PP_lt
  have h4 := num6 hw hl
  rw [num_fe, num_fe] at hs
  rw [wp_six] at hs h3
  have hd : d = 0 := by omega
  subst hd
  rw [Int.mul_zero, Int.add_zero] at hs
  have hc : fe (x + y) = fe (num o) := fe_congr (by rw [hs, ← Int.add_emod])
  have hlt : num o' < PP := by split at he <;> omega
  rw [fe_below hw' hl' hlt, hc]
  refine fe_congr ?_
  rw [he]
  split
  · rfl
  · rw [Int.sub_emod_right]
theorem diff_lt {x y : Int} {o : List Int} {d : Int} (hl : o.length = 6) (hw : Words o) (hs : num o - wp 6 * d = num (fe x) - num (fe y)) (hd0 : 0 ≤ d) (hd1 : d ≤ 1) (h : num (fe x) < num (fe y)) : d = 1 := by
  have h4 := num6 hw hl
  rw [wp_six] at *
  omega
theorem diff_ge {x y : Int} {o : List Int} {d : Int} (hl : o.length = 6) (hw : Words o) (hs : num o - wp 6 * d = num (fe x) - num (fe y)) (hd0 : 0 ≤ d) (hd1 : d ≤ 1) (h : ¬ num (fe x) < num (fe y)) : d = 0 := by
  have h4 := num6 hw hl
  have h1 := fe_mod x
  have h2 := PP_lt
  rw [num_fe x] at *
  rw [wp_six] at *
  omega
theorem diff_none {x y : Int} {o : List Int} (hl : o.length = 6) (hw : Words o) (hs : num o - wp 6 * 0 = num (fe x) - num (fe y)) : o = fe (x - y) := by
  have h1 := fe_mod x
  have h2 := fe_mod y
  rw [num_fe, num_fe, Int.mul_zero, Int.sub_zero] at hs
  rw [fe_below hw hl (by omega)]
  exact fe_congr (by rw [hs, ← Int.sub_emod])
theorem diff_once {x y : Int} {o o' : List Int} {d : Int} (hl : o.length = 6) (hw : Words o) (hl' : o'.length = 6) (hw' : Words o') (hs : num o - wp 6 * 1 = num (fe x) - num (fe y)) (he : num o' + wp 6 * d = num o + num pL) (hd0 : 0 ≤ d) (hd1 : d ≤ 1) : o' = fe (x - y) := by
  have h1 := fe_mod x
  have h2 := fe_mod y
  have h3 := PP_lt
  have h4 := num6 hw hl
  have h5 := num6 hw' hl'
  rw [num_fe, num_fe] at hs
  rw [num_pL] at he
  rw [wp_six] at hs h3 he h4 h5
  have hn : num o' = x % PP - y % PP + PP := by omega
  rw [fe_below hw' hl' (by omega)]
  exact fe_congr (by rw [hn, Int.add_emod_right, ← Int.sub_emod])

set_option maxRecDepth 100000 in
set_option maxHeartbeats 1000000 in
theorem fpReduce_c (a : List Int) (hla : a.length = 6) (hwa : Words a) (w : World) (hG : Glob w) : Calls Tryd.prog 14 #[.agg (vals .u64 a)] w fun e w' => e = .returned (.agg (vals .u64 (fe (num a)))) ∧ Below w.heap.size w w' := by
  obtain ⟨o, ho⟩ : ∃ o, (fe (num a)) = o := ⟨_, rfl⟩
  have OL : Keep (o.length = 6) := ⟨by rw [← ho]; exact fe_len _⟩
  have HO : Keep _ := ⟨ho⟩
  have La : Keep _ := ⟨hla⟩
  have Wa : Keep _ := ⟨hwa⟩
  have qa0 : Has ((w.alloc (.cells (vals .u64 a) 24)).alloc (.cells (vals .u64 Z6) 24)) (w.heap.size) 24 (vals .u64 a) := ((Has.new _ _ _).alloc _)
  have Fa : Keep (Free (w.heap.size)) := ⟨hG.free (by omega)⟩
  have hR0 : Has ((w.alloc (.cells (vals .u64 a) 24)).alloc (.cells (vals .u64 Z6) 24)) (w.heap.size + 1) 24 (vals .u64 Z6) := Has.new' _ (by simp) _ _
  have hb0 : Below w.heap.size w ((w.alloc (.cells (vals .u64 a) 24)).alloc (.cells (vals .u64 Z6) 24)) := (((Below.refl _ _).alloc (by simp <;> omega) _).alloc (by simp <;> omega) _)
  have HG0 : Keep _ := ⟨hG.keep hb0⟩
  rw [ho]
  clear ho hG hla hwa
  go_enter Tryd.func14, Tryd.ntmps14
  go_wp2_with (first
    | (refine wpList_load_row rfl 24 (.tmp 1) rfl (w.heap.size) rfl _ _ _ _ qa1.eq Tryd.underlying24 rfl (by rw [vals_size, OL.out]; kernel_rfl) ?_)
    | (refine wpList_store_rowTo rfl 24 (.tmp 2) (.tmp 4) rfl rfl (w.heap.size + 1) (vals .u64 o) rfl rfl _ _ hR1.eq (by rw [vals_size, OL.out]; kernel_rfl) (by rw [vals_size, vals_size, OL.out]; rfl) vals_one ?_)
    | (go_at_call 31
       refine (fpLower_c (w.heap.size) 24 a La.out Wa.out Fa.out _ HG0.out qa0).mono ?_
       rintro e w1 ⟨rfl, qa1, ho⟩
       have hR1 := ho.has hR0 (by omega)
       have HG1 : Keep _ := ⟨HG0.out.only ho Fa.out⟩
       have hb1 := hb0.trans (ho.below (B := w.heap.size) (by omega) hb0.size)
       clear ho hb0 hR0 qa0
       rw [HO.out] at qa1))
  refine bodyPost_ret (v := .agg (vals .u64 o)) (results_cell_row rfl _ _ (w.heap.size + 1) _ _ _ _ rfl (hR1.row _).eq Tryd.underlying24 rfl (by rw [vals_size, OL.out]; kernel_rfl)) rfl ⟨rfl, below_row hb1 (by omega) _⟩

set_option maxRecDepth 100000 in
set_option maxHeartbeats 1000000 in
theorem fpAdd_c (a : List Int) (hla : a.length = 6) (hwa : Words a) (b : List Int) (hlb : b.length = 6) (hwb : Words b) (w : World) (hG : Glob w) : Calls Tryd.prog 26 #[.agg (vals .u64 a), .agg (vals .u64 b)] w fun e w' => e = .returned (.agg (vals .u64 (fe (num a + num b)))) ∧ Below w.heap.size w w' := by
  obtain ⟨o, ho⟩ : ∃ o, (fe (num a + num b)) = o := ⟨_, rfl⟩
  have OL : Keep (o.length = 6) := ⟨by rw [← ho]; exact fe_len _⟩
  have HO : Keep _ := ⟨ho⟩
  have La : Keep _ := ⟨hla⟩
  have Wa : Keep _ := ⟨hwa⟩
  have Lb : Keep _ := ⟨hlb⟩
  have Wb : Keep _ := ⟨hwb⟩
  have qa0 : Has (((w.alloc (.cells (vals .u64 a) 24)).alloc (.cells (vals .u64 b) 24)).alloc (.cells (vals .u64 Z6) 24)) (w.heap.size) 24 (vals .u64 a) := (((Has.new _ _ _).alloc _).alloc _)
  have Fa : Keep (Free (w.heap.size)) := ⟨hG.free (by omega)⟩
  have qb0 : Has (((w.alloc (.cells (vals .u64 a) 24)).alloc (.cells (vals .u64 b) 24)).alloc (.cells (vals .u64 Z6) 24)) (w.heap.size + 1) 24 (vals .u64 b) := ((Has.new' _ (by simp) _ _).alloc _)
  have Fb : Keep (Free (w.heap.size + 1)) := ⟨hG.free (by omega)⟩
  have hR0 : Has (((w.alloc (.cells (vals .u64 a) 24)).alloc (.cells (vals .u64 b) 24)).alloc (.cells (vals .u64 Z6) 24)) (w.heap.size + 1 + 1) 24 (vals .u64 Z6) := Has.new' _ (by simp) _ _
  have hb0 : Below w.heap.size w (((w.alloc (.cells (vals .u64 a) 24)).alloc (.cells (vals .u64 b) 24)).alloc (.cells (vals .u64 Z6) 24)) := ((((Below.refl _ _).alloc (by simp <;> omega) _).alloc (by simp <;> omega) _).alloc (by simp <;> omega) _)
  have HG0 : Keep _ := ⟨hG.keep hb0⟩
  rw [ho]
  clear ho hG hla hwa hlb hwb
  go_enter Tryd.func26, Tryd.ntmps26
  go_wp2_with (first
    | (refine wpList_load_row rfl 24 (.tmp 2) rfl (w.heap.size) rfl _ _ _ _ qa4.eq Tryd.underlying24 rfl (by rw [vals_size, OL.out]; kernel_rfl) ?_)
    | (refine wpList_store_rowTo rfl 24 (.tmp 4) (.tmp 9) rfl rfl (w.heap.size + 1 + 1) (vals .u64 o) rfl rfl _ _ hR4.eq (by rw [vals_size, OL.out]; kernel_rfl) (by rw [vals_size, vals_size, OL.out]; rfl) vals_one ?_)
    | (go_at_call 54
       refine (takeOnce_c (w.heap.size) 24 o2 [] S3.out.1 S3.out.2.1 Fa.out _ HG3.out (by rw [List.append_nil]; exact qa3)).mono ?_
       rintro e w4 ⟨rfl, o3, qa4, hl, hw, hs, ho⟩
       have FIN : Keep _ := ⟨(sum_once S3.out.1 S3.out.2.1 hl hw S3.out.2.2.1 S3.out.2.2.2.1 S3.out.2.2.2.2 hs).trans HO.out⟩
       rw [List.append_nil, FIN.out] at qa4
       have hR4 := ho.has hR3 (by omega)
       have HG4 : Keep _ := ⟨HG3.out.only ho Fa.out⟩
       have hb4 := hb3.trans (ho.below (B := w.heap.size) (by omega) hb3.size)
       clear ho hb3 hR3 qa3 hl hw hs)
    | (go_at_call 53
       refine (addTo_c (w.heap.size) (w.heap.size + 1) 24 24 (fe (num a)) (fe (num b)) (fe_len _) (fe_len _) (fe_words _) (fe_words _) (by omega) _ qa2 qb2).mono ?_
       rintro e w3 ⟨rfl, o2, d, qa3, hl, hw, hs, hd0, hd1, ho⟩
       have S3 : Keep _ := ⟨And.intro hl (And.intro hw (And.intro hs (And.intro hd0 hd1)))⟩
       have hR3 := ho.has hR2 (by omega)
       have qb3 := ho.has qb2 (by omega)
       have HG3 : Keep _ := ⟨HG2.out.only ho Fa.out⟩
       have hb3 := hb2.trans (ho.below (B := w.heap.size) (by omega) hb2.size)
       clear ho hb2 hR2 qb2 qa2 hl hw hs hd0 hd1)
    | (go_at_call 31
       refine (fpLower_c (w.heap.size + 1) 24 b Lb.out Wb.out Fb.out _ HG1.out qb1).mono ?_
       rintro e w2 ⟨rfl, qb2, ho⟩
       have hR2 := ho.has hR1 (by omega)
       have qa2 := ho.has qa1 (by omega)
       have HG2 : Keep _ := ⟨HG1.out.only ho Fb.out⟩
       have hb2 := hb1.trans (ho.below (B := w.heap.size) (by omega) hb1.size)
       clear ho hb1 hR1 qa1 qb1)
    | (go_at_call 31
       refine (fpLower_c (w.heap.size) 24 a La.out Wa.out Fa.out _ HG0.out qa0).mono ?_
       rintro e w1 ⟨rfl, qa1, ho⟩
       have hR1 := ho.has hR0 (by omega)
       have qb1 := ho.has qb0 (by omega)
       have HG1 : Keep _ := ⟨HG0.out.only ho Fa.out⟩
       have hb1 := hb0.trans (ho.below (B := w.heap.size) (by omega) hb0.size)
       clear ho hb0 hR0 qb0 qa0))
  refine bodyPost_ret (v := .agg (vals .u64 o)) (results_cell_row rfl _ _ (w.heap.size + 1 + 1) _ _ _ _ rfl (hR4.row _).eq Tryd.underlying24 rfl (by rw [vals_size, OL.out]; kernel_rfl)) rfl ⟨rfl, below_row hb4 (by omega) _⟩

set_option maxRecDepth 100000 in
set_option maxHeartbeats 1000000 in
theorem fpSub_c (a : List Int) (hla : a.length = 6) (hwa : Words a) (b : List Int) (hlb : b.length = 6) (hwb : Words b) (w : World) (hG : Glob w) : Calls Tryd.prog 43 #[.agg (vals .u64 a), .agg (vals .u64 b)] w fun e w' => e = .returned (.agg (vals .u64 (fe (num a - num b)))) ∧ Below w.heap.size w w' := by
  obtain ⟨o, ho⟩ : ∃ o, (fe (num a - num b)) = o := ⟨_, rfl⟩
  have OL : Keep (o.length = 6) := ⟨by rw [← ho]; exact fe_len _⟩
  have HO : Keep _ := ⟨ho⟩
  have La : Keep _ := ⟨hla⟩
  have Wa : Keep _ := ⟨hwa⟩
  have Lb : Keep _ := ⟨hlb⟩
  have Wb : Keep _ := ⟨hwb⟩
  have qa0 : Has (((w.alloc (.cells (vals .u64 a) 24)).alloc (.cells (vals .u64 b) 24)).alloc (.cells (vals .u64 Z6) 24)) (w.heap.size) 24 (vals .u64 a) := (((Has.new _ _ _).alloc _).alloc _)
  have Fa : Keep (Free (w.heap.size)) := ⟨hG.free (by omega)⟩
  have qb0 : Has (((w.alloc (.cells (vals .u64 a) 24)).alloc (.cells (vals .u64 b) 24)).alloc (.cells (vals .u64 Z6) 24)) (w.heap.size + 1) 24 (vals .u64 b) := ((Has.new' _ (by simp) _ _).alloc _)
  have Fb : Keep (Free (w.heap.size + 1)) := ⟨hG.free (by omega)⟩
  have hR0 : Has (((w.alloc (.cells (vals .u64 a) 24)).alloc (.cells (vals .u64 b) 24)).alloc (.cells (vals .u64 Z6) 24)) (w.heap.size + 1 + 1) 24 (vals .u64 Z6) := Has.new' _ (by simp) _ _
  have hb0 : Below w.heap.size w (((w.alloc (.cells (vals .u64 a) 24)).alloc (.cells (vals .u64 b) 24)).alloc (.cells (vals .u64 Z6) 24)) := ((((Below.refl _ _).alloc (by simp <;> omega) _).alloc (by simp <;> omega) _).alloc (by simp <;> omega) _)
  have HG0 : Keep _ := ⟨hG.keep hb0⟩
  rw [ho]
  clear ho hG hla hwa hlb hwb
  by_cases hc : num (fe (num a)) < num (fe (num b))
  · have HC : Keep _ := ⟨hc⟩
    clear hc
    go_enter Tryd.func43, Tryd.ntmps43
    go_wp2_with (first
      | (refine wpList_load_row rfl 24 (.tmp 2) rfl (w.heap.size) rfl _ _ _ _ qa5.eq Tryd.underlying24 rfl (by rw [vals_size, OL.out]; kernel_rfl) ?_)
      | (refine wpList_store_rowTo rfl 24 (.tmp 4) (.tmp 12) rfl rfl (w.heap.size + 1 + 1) (vals .u64 o) rfl rfl _ _ hR5.eq (by rw [vals_size, OL.out]; kernel_rfl) (by rw [vals_size, vals_size, OL.out]; rfl) vals_one ?_)
      | (go_at_call 53
         refine (addTo_c (w.heap.size) w3.heap.size 24 24 o2 pL S3.out.1 pL_len S3.out.2.1 pL_words (by have := HS3.out; omega) _ qa4 hQ4).mono ?_
         rintro e w5 ⟨rfl, o5, d5, qa5, hl, hw, hs, hd0, hd1, ho⟩
         have FIN : Keep _ := ⟨(diff_once S3.out.1 S3.out.2.1 hl hw S3.out.2.2 hs hd0 hd1).trans HO.out⟩
         rw [FIN.out] at qa5
         have hR5 := ho.has hR4 (by omega)
         have HG5 : Keep _ := ⟨HG4.out.only ho Fa.out⟩
         have hb5 := hb4.trans (ho.below (B := w.heap.size) (by omega) hb4.size)
         clear ho hb4 hR4 qa4 hQ4 hl hw hs hd0 hd1)
      | (refine store_abs2 (by rfl) 24 (.tmp 5) (.tmp 10) (by rfl) (by rfl) w3.heap.size (vals .u64 pL) (by rfl) (by rfl) 24 (vals .u64 Z6) (Has.new' _ rfl _ _) (by kernel_rfl) (by rfl) vals_one ?_
         intro w4 hQ4 hkeep hbg
         have hbe := ((Below.refl w3.heap.size w3).alloc (Nat.le_refl _) (.cells (vals .u64 Z6) 24)).trans hbg
         have qa4 := qa3.keep hbe
         have hR4 := hR3.keep hbe
         have HG4 : Keep _ := ⟨HG3.out.keep hbe⟩
         have hb4 := hb3.trans (hbe.mono hb3.size)
         clear hkeep hbg hbe qa3 hR3 hb3 hP3)
      | (refine wpList_load_row rfl 24 (.global 0) rfl 0 rfl _ _ _ _ hP3.eq Tryd.underlying24 rfl (by kernel_rfl) ?_)
      | (go_at_call 68
         refine (takeFrom_c (w.heap.size) (w.heap.size + 1) 24 24 (fe (num a)) (fe (num b)) (fe_len _) (fe_len _) (fe_words _) (fe_words _) (by omega) _ qa2 qb2).mono ?_
         rintro e w3 ⟨o2, d, rfl, qa3, hl, hw, hs, hd0, hd1, ho⟩
         obtain rfl : d = 1 := diff_lt hl hw hs hd0 hd1 (by have := HC.out; omega)
         have S3 : Keep _ := ⟨And.intro hl (And.intro hw hs)⟩
         have hR3 := ho.has hR2 (by omega)
         have qb3 := ho.has qb2 (by omega)
         have HG3 : Keep _ := ⟨HG2.out.only ho Fa.out⟩
         have hb3 := hb2.trans (ho.below (B := w.heap.size) (by omega) hb2.size)
         clear ho hb2 hR2 qb2 qa2 hl hw hs hd0 hd1
         obtain ⟨tp, hP3⟩ := HG3.out.p
         have HS3 : Keep (w.heap.size < w3.heap.size) := ⟨qa3.lt⟩)
      | (go_at_call 31
         refine (fpLower_c (w.heap.size + 1) 24 b Lb.out Wb.out Fb.out _ HG1.out qb1).mono ?_
         rintro e w2 ⟨rfl, qb2, ho⟩
         have hR2 := ho.has hR1 (by omega)
         have qa2 := ho.has qa1 (by omega)
         have HG2 : Keep _ := ⟨HG1.out.only ho Fb.out⟩
         have hb2 := hb1.trans (ho.below (B := w.heap.size) (by omega) hb1.size)
         clear ho hb1 hR1 qa1 qb1)
      | (go_at_call 31
         refine (fpLower_c (w.heap.size) 24 a La.out Wa.out Fa.out _ HG0.out qa0).mono ?_
         rintro e w1 ⟨rfl, qa1, ho⟩
         have hR1 := ho.has hR0 (by omega)
         have qb1 := ho.has qb0 (by omega)
         have HG1 : Keep _ := ⟨HG0.out.only ho Fa.out⟩
         have hb1 := hb0.trans (ho.below (B := w.heap.size) (by omega) hb0.size)
         clear ho hb0 hR0 qb0 qa0))
    refine bodyPost_ret (v := .agg (vals .u64 o)) (results_cell_row rfl _ _ (w.heap.size + 1 + 1) _ _ _ _ rfl (hR5.row _).eq Tryd.underlying24 rfl (by rw [vals_size, OL.out]; kernel_rfl)) rfl ⟨rfl, below_row hb5 (by omega) _⟩
  · have HC : Keep _ := ⟨hc⟩
    clear hc
    go_enter Tryd.func43, Tryd.ntmps43
    go_wp2_with (first
      | (refine wpList_load_row rfl 24 (.tmp 2) rfl (w.heap.size) rfl _ _ _ _ qa3.eq Tryd.underlying24 rfl (by rw [vals_size, OL.out]; kernel_rfl) ?_)
      | (refine wpList_store_rowTo rfl 24 (.tmp 4) (.tmp 12) rfl rfl (w.heap.size + 1 + 1) (vals .u64 o) rfl rfl _ _ hR3.eq (by rw [vals_size, OL.out]; kernel_rfl) (by rw [vals_size, vals_size, OL.out]; rfl) vals_one ?_)
      | (go_at_call 68
         refine (takeFrom_c (w.heap.size) (w.heap.size + 1) 24 24 (fe (num a)) (fe (num b)) (fe_len _) (fe_len _) (fe_words _) (fe_words _) (by omega) _ qa2 qb2).mono ?_
         rintro e w3 ⟨o2, d, rfl, qa3, hl, hw, hs, hd0, hd1, ho⟩
         obtain rfl : d = 0 := diff_ge hl hw hs hd0 hd1 (by have := HC.out; omega)
         have S3 : Keep _ := ⟨And.intro hl (And.intro hw hs)⟩
         have hR3 := ho.has hR2 (by omega)
         have qb3 := ho.has qb2 (by omega)
         have HG3 : Keep _ := ⟨HG2.out.only ho Fa.out⟩
         have hb3 := hb2.trans (ho.below (B := w.heap.size) (by omega) hb2.size)
         clear ho hb2 hR2 qb2 qa2 hl hw hs hd0 hd1
         have FIN : o2 = o := (diff_none S3.out.1 S3.out.2.1 S3.out.2.2).trans HO.out
         rw [FIN] at qa3)
      | (go_at_call 31
         refine (fpLower_c (w.heap.size + 1) 24 b Lb.out Wb.out Fb.out _ HG1.out qb1).mono ?_
         rintro e w2 ⟨rfl, qb2, ho⟩
         have hR2 := ho.has hR1 (by omega)
         have qa2 := ho.has qa1 (by omega)
         have HG2 : Keep _ := ⟨HG1.out.only ho Fb.out⟩
         have hb2 := hb1.trans (ho.below (B := w.heap.size) (by omega) hb1.size)
         clear ho hb1 hR1 qa1 qb1)
      | (go_at_call 31
         refine (fpLower_c (w.heap.size) 24 a La.out Wa.out Fa.out _ HG0.out qa0).mono ?_
         rintro e w1 ⟨rfl, qa1, ho⟩
         have hR1 := ho.has hR0 (by omega)
         have qb1 := ho.has qb0 (by omega)
         have HG1 : Keep _ := ⟨HG0.out.only ho Fa.out⟩
         have hb1 := hb0.trans (ho.below (B := w.heap.size) (by omega) hb0.size)
         clear ho hb0 hR0 qb0 qa0))
    refine bodyPost_ret (v := .agg (vals .u64 o)) (results_cell_row rfl _ _ (w.heap.size + 1 + 1) _ _ _ _ rfl (hR3.row _).eq Tryd.underlying24 rfl (by rw [vals_size, OL.out]; kernel_rfl)) rfl ⟨rfl, below_row hb3 (by omega) _⟩

set_option maxRecDepth 100000 in
set_option maxHeartbeats 1000000 in
theorem fpNeg_c (a : List Int) (hla : a.length = 6) (hwa : Words a) (w : World) (hG : Glob w) : Calls Tryd.prog 29 #[.agg (vals .u64 a)] w fun e w' => e = .returned (.agg (vals .u64 (fe (-num a)))) ∧ Below w.heap.size w w' := by
  obtain ⟨o, ho⟩ : ∃ o, (fe (-num a)) = o := ⟨_, rfl⟩
  have OL : Keep (o.length = 6) := ⟨by rw [← ho]; exact fe_len _⟩
  have HO : Keep _ := ⟨ho⟩
  have La : Keep _ := ⟨hla⟩
  have Wa : Keep _ := ⟨hwa⟩
  have qa0 : Has ((w.alloc (.cells (vals .u64 a) 24)).alloc (.cells (vals .u64 Z6) 24)) (w.heap.size) 24 (vals .u64 a) := ((Has.new _ _ _).alloc _)
  have Fa : Keep (Free (w.heap.size)) := ⟨hG.free (by omega)⟩
  have hR0 : Has ((w.alloc (.cells (vals .u64 a) 24)).alloc (.cells (vals .u64 Z6) 24)) (w.heap.size + 1) 24 (vals .u64 Z6) := Has.new' _ (by simp) _ _
  have hb0 : Below w.heap.size w ((w.alloc (.cells (vals .u64 a) 24)).alloc (.cells (vals .u64 Z6) 24)) := (((Below.refl _ _).alloc (by simp <;> omega) _).alloc (by simp <;> omega) _)
  have HG0 : Keep _ := ⟨hG.keep hb0⟩
  have HZ : Keep (fe (num Z6 - num a) = o) := ⟨by rw [num_Z6', Int.zero_sub, ho]⟩
  rw [ho]
  clear ho hG hla hwa
  go_enter Tryd.func29, Tryd.ntmps29
  go_wp2_with (first
    | (refine wpList_buildTo (by rfl) 24 #[] (by rfl) (some 3) (by rfl) (vals .u64 Z6) (by kernel_rfl) ?_)
    | (refine wpList_load_row rfl 24 (.tmp 1) rfl (w.heap.size) rfl _ _ _ _ qa0.eq Tryd.underlying24 rfl (by rw [vals_size, La.out]; kernel_rfl) ?_)
    | (go_at_call 43
       refine (fpSub_c Z6 rfl Z6_wd a La.out Wa.out _ HG0.out).mono ?_
       rintro e w1 ⟨rfl, hb1⟩
       rw [HZ.out]
       have hR1 := hR0.keep hb1
       have hbb1 := hb0.trans (hb1.mono hb0.size)
       clear hR0 hb0 hb1 qa0)
    | (refine wpList_store_rowTo rfl 24 (.tmp 2) (.tmp 5) rfl rfl (w.heap.size + 1) (vals .u64 o) rfl rfl _ _ hR1.eq (by rw [vals_size, OL.out]; kernel_rfl) (by rw [vals_size, vals_size, OL.out]; rfl) vals_one ?_))
  refine bodyPost_ret (v := .agg (vals .u64 o)) (results_cell_row rfl _ _ (w.heap.size + 1) _ _ _ _ rfl (hR1.row _).eq Tryd.underlying24 rfl (by rw [vals_size, OL.out]; kernel_rfl)) rfl ⟨rfl, below_row hbb1 (by omega) _⟩
end Go.Proofs.YtmohopjblhgdiaaDoor.Fp
