/-
  Own text. The walks of layer 4's statements: names, sums, products, field.
-/
import Derived.Test.YtpkfknmpegieaaaDoorFpAwake
namespace Go.Proofs.YtpkfknmpegieaaaDoor.Fp
set_option linter.unusedVariables false
set_option linter.unusedSimpArgs false
open Go Go.RowKit Go.Proofs.YtpkfknmpegieaaaDoor.Reg Go.Proofs.YtpkfknmpegieaaaDoor.Base Go.Proofs.YtpkfknmpegieaaaDoor.Limb Go.Proofs.YtpkfknmpegieaaaDoor.Bits

set_option maxRecDepth 100000 in
set_option maxHeartbeats 2000000 in
theorem fpNames_w (w : World) (hG : GlobD w) : Calls Tryd.prog 3 #[] w fun e w' => e = .returned (.bool true) ∧ Below w.heap.size w w' := by
  have E1 := eq6 pL pL_len
  have hgd := gd6
  have hb0 : Below w.heap.size w w := Below.refl _ _
  have HG : Keep (∀ x : World, Below w.heap.size w x → Glob x) := ⟨fun x h => hG.toGlob.keep h⟩
  have HD : Keep (∀ x : World, Below w.heap.size w x → GlobD x) := ⟨fun x h => hG.keep h⟩
  clear hG
  go_enter Tryd.func3, Tryd.ntmps3
  go_wp2_with (first
    | (go_at_call 20
       refine (refP_c _).mono ?_
       rintro e w3 ⟨rfl, hq⟩
       have hb3 := hb2.trans (hq.mono hb2.size)
       clear hq hb2 )
    | (go_at_call 19
       refine (fpP_c _ (HG.out _ hb1)).mono ?_
       rintro e w2 ⟨rfl, hq⟩
       have hb2 := hb1.trans (hq.mono hb1.size)
       clear hq hb1 )
    | (go_at_call 18
       refine (awake_c _ (HD.out _ hb0)).mono ?_
       rintro e w1 ⟨rfl, hq⟩
       have hb1 := hb0.trans (hq.mono hb0.size)
       clear hq hb0 ))
  go_ret
  exact ⟨rfl, hb3⟩

set_option maxRecDepth 100000 in
set_option maxHeartbeats 4000000 in
theorem fpSums_w (a : List Int) (hla : a.length = 6) (hwa : Words a) (b : List Int) (hlb : b.length = 6) (hwb : Words b) (w : World) (hG : GlobD w) : Calls Tryd.prog 4 #[.agg (vals .u64 a), .agg (vals .u64 b)] w fun e w' => e = .returned (.bool true) ∧ Below w.heap.size w w' := by
  have A1 : Keep _ := ⟨fun w (hG : Glob w) => fpReduce_c a hla hwa w hG⟩
  have B1 : Keep _ := ⟨fun w => refReduce_c a hla hwa w⟩
  have A2 : Keep _ := ⟨fun w (hG : Glob w) => fpAdd_c a hla hwa b hlb hwb w hG⟩
  have B2 : Keep _ := ⟨fun w => refFpAdd_c a b hla hwa hlb hwb w⟩
  have A3 : Keep _ := ⟨fun w (hG : Glob w) => fpSub_c a hla hwa b hlb hwb w hG⟩
  have B3 : Keep _ := ⟨fun w => refFpSub_c a b hla hwa hlb hwb w⟩
  have A4 : Keep _ := ⟨fun w (hG : Glob w) => fpNeg_c a hla hwa w hG⟩
  have B4 : Keep _ := ⟨fun w => refNeg_c a hla hwa w⟩
  obtain ⟨s1, hs1⟩ : ∃ o, fe (num a) = o := ⟨_, rfl⟩
  have Ls1 : Keep (s1.length = 6) := ⟨by rw [← hs1]; exact fe_len _⟩
  have Es1 := eq6 s1 Ls1.out
  rw [hs1] at A1 B1
  obtain ⟨s2, hs2⟩ : ∃ o, fe (num a + num b) = o := ⟨_, rfl⟩
  have Ls2 : Keep (s2.length = 6) := ⟨by rw [← hs2]; exact fe_len _⟩
  have Es2 := eq6 s2 Ls2.out
  rw [hs2] at A2 B2
  obtain ⟨s3, hs3⟩ : ∃ o, fe (num a - num b) = o := ⟨_, rfl⟩
  have Ls3 : Keep (s3.length = 6) := ⟨by rw [← hs3]; exact fe_len _⟩
  have Es3 := eq6 s3 Ls3.out
  rw [hs3] at A3 B3
  obtain ⟨s4, hs4⟩ : ∃ o, fe (-num a) = o := ⟨_, rfl⟩
  have Ls4 : Keep (s4.length = 6) := ⟨by rw [← hs4]; exact fe_len _⟩
  have Es4 := eq6 s4 Ls4.out
  rw [hs4] at A4 B4
  have hgd := gd6
  have HG : Keep (∀ x : World, Below w.heap.size w x → Glob x) := ⟨fun x h => hG.toGlob.keep h⟩
  have HD : Keep (∀ x : World, Below w.heap.size w x → GlobD x) := ⟨fun x h => hG.keep h⟩
  clear hG
  have qa0 : Has ((w.alloc (.cells (vals .u64 a) 25)).alloc (.cells (vals .u64 b) 25)) (w.heap.size) 25 (vals .u64 a) := ((Has.new _ _ _).alloc _)
  have qb0 : Has ((w.alloc (.cells (vals .u64 a) 25)).alloc (.cells (vals .u64 b) 25)) (w.heap.size + 1) 25 (vals .u64 b) := (Has.new' _ (by simp) _ _)
  have hb0 : Below w.heap.size w ((w.alloc (.cells (vals .u64 a) 25)).alloc (.cells (vals .u64 b) 25)) := (((Below.refl _ _).alloc (by simp <;> omega) _).alloc (by simp <;> omega) _)
  have La : Keep _ := ⟨hla⟩
  have Wa : Keep _ := ⟨hwa⟩
  have Lb : Keep _ := ⟨hlb⟩
  have Wb : Keep _ := ⟨hwb⟩
  clear hs1 hs2 hs3 hs4 hla hwa hlb hwb
  go_enter Tryd.func4, Tryd.ntmps4
  go_wp2_with (first
    | (go_at_call 18
       refine (awake_c _ (HD.out _ hb0)).mono ?_
       rintro e w1 ⟨rfl, hq⟩
       have qa1 := qa0.keep hq
       have qb1 := qb0.keep hq
       have hb1 := hb0.trans (hq.mono hb0.size)
       clear hq hb0 qa0 qb0))
  refine wp_fam_all (by kernel_rfl) (by kernel_rfl) (fun I hI' fw hf hback => ?_)
  have HGf : Keep (∀ j, Glob (fw j)) := ⟨fun j => HG.out _ (hb1.trans ((hf j).mono hb1.size))⟩
  have HDf : Keep (∀ j, GlobD (fw j)) := ⟨fun j => HD.out _ (hb1.trans ((hf j).mono hb1.size))⟩
  repeat (first
    | (go_big_quiet_want
       refine quiet_load_seg 25 (.tmp 2) (by rfl) (w.heap.size) 0 6 (by rfl) 25 .u64 a a _ (fun w' ⟨i, hi⟩ => by rw [hi]; exact qa1.keep (hf i)) Tryd.underlying25 rfl (by kernel_rfl) (by rw [List.drop_zero, take_all La.out]) (by rw [La.out]; omega) ?_
       simp only [Act.put, List.setIfInBounds_toArray, List.set_cons_zero, List.set_cons_succ]
       go_big_quiet_on)
    | (go_big_quiet_want
       refine quiet_load_seg 25 (.tmp 3) (by rfl) (w.heap.size + 1) 0 6 (by rfl) 25 .u64 b b _ (fun w' ⟨i, hi⟩ => by rw [hi]; exact qb1.keep (hf i)) Tryd.underlying25 rfl (by kernel_rfl) (by rw [List.drop_zero, take_all Lb.out]) (by rw [Lb.out]; omega) ?_
       simp only [Act.put, List.setIfInBounds_toArray, List.set_cons_zero, List.set_cons_succ]
       go_big_quiet_on)
    | go_big_quiet_step (first | fail | (go_at_call 21; with_reducible exact calls_fam hf hback (A1.out _ (HGf.out _))) | (go_at_call 22; with_reducible exact calls_fam hf hback (B1.out _)) | (go_at_call 23; with_reducible exact calls_fam hf hback (A2.out _ (HGf.out _))) | (go_at_call 24; with_reducible exact calls_fam hf hback (B2.out _))))
  refine wpQuiet_nil ?_
  intro w2 hq
  have qa2 := qa1.keep hq
  have qb2 := qb1.keep hq
  have hb2 := hb1.trans (hq.mono hb1.size)
  clear HDf HGf hf hback hq qa1 qb1 hb1 
  go_wp2
  refine wp_fam_all (by kernel_rfl) (by kernel_rfl) (fun I hI' fw hf hback => ?_)
  have HGf : Keep (∀ j, Glob (fw j)) := ⟨fun j => HG.out _ (hb2.trans ((hf j).mono hb2.size))⟩
  have HDf : Keep (∀ j, GlobD (fw j)) := ⟨fun j => HD.out _ (hb2.trans ((hf j).mono hb2.size))⟩
  repeat (first
    | (go_big_quiet_want
       refine quiet_load_seg 25 (.tmp 2) (by rfl) (w.heap.size) 0 6 (by rfl) 25 .u64 a a _ (fun w' ⟨i, hi⟩ => by rw [hi]; exact qa2.keep (hf i)) Tryd.underlying25 rfl (by kernel_rfl) (by rw [List.drop_zero, take_all La.out]) (by rw [La.out]; omega) ?_
       simp only [Act.put, List.setIfInBounds_toArray, List.set_cons_zero, List.set_cons_succ]
       go_big_quiet_on)
    | (go_big_quiet_want
       refine quiet_load_seg 25 (.tmp 3) (by rfl) (w.heap.size + 1) 0 6 (by rfl) 25 .u64 b b _ (fun w' ⟨i, hi⟩ => by rw [hi]; exact qb2.keep (hf i)) Tryd.underlying25 rfl (by kernel_rfl) (by rw [List.drop_zero, take_all Lb.out]) (by rw [Lb.out]; omega) ?_
       simp only [Act.put, List.setIfInBounds_toArray, List.set_cons_zero, List.set_cons_succ]
       go_big_quiet_on)
    | go_big_quiet_step (first | fail | (go_at_call 25; with_reducible exact calls_fam hf hback (A3.out _ (HGf.out _))) | (go_at_call 26; with_reducible exact calls_fam hf hback (B3.out _)) | (go_at_call 27; with_reducible exact calls_fam hf hback (A4.out _ (HGf.out _))) | (go_at_call 28; with_reducible exact calls_fam hf hback (B4.out _))))
  refine wpQuiet_nil ?_
  intro w3 hq
  have hb3 := hb2.trans (hq.mono hb2.size)
  clear HDf HGf hf hback hq  hb2 qa2 qb2
  go_wp2
  go_ret
  exact ⟨rfl, hb3⟩

set_option maxRecDepth 100000 in
set_option maxHeartbeats 4000000 in
theorem fpProducts_w (a : List Int) (hla : a.length = 6) (hwa : Words a) (b : List Int) (hlb : b.length = 6) (hwb : Words b) (w : World) (hG : GlobD w) : Calls Tryd.prog 5 #[.agg (vals .u64 a), .agg (vals .u64 b)] w fun e w' => e = .returned (.bool true) ∧ Below w.heap.size w w' := by
  have A1 : Keep _ := ⟨fun w (hG : Glob w) => fpMul_c a hla hwa b hlb hwb w hG⟩
  have B1 : Keep _ := ⟨fun w => refFpMul_c a b hla hwa hlb hwb w⟩
  have A2 : Keep _ := ⟨fun w (hG : GlobD w) => fpInv_c a hla hwa w hG⟩
  have B2 : Keep _ := ⟨fun w => refFpInv_c a hla hwa w⟩
  obtain ⟨s1, hs1⟩ : ∃ o, fe (num a * num b) = o := ⟨_, rfl⟩
  have Ls1 : Keep (s1.length = 6) := ⟨by rw [← hs1]; exact fe_len _⟩
  have Es1 := eq6 s1 Ls1.out
  rw [hs1] at A1 B1
  obtain ⟨s2, hs2⟩ : ∃ o, fe (pw (num a) (PP - 2)) = o := ⟨_, rfl⟩
  have Ls2 : Keep (s2.length = 6) := ⟨by rw [← hs2]; exact fe_len _⟩
  have Es2 := eq6 s2 Ls2.out
  rw [hs2] at A2 B2
  have hgd := gd6
  have HG : Keep (∀ x : World, Below w.heap.size w x → Glob x) := ⟨fun x h => hG.toGlob.keep h⟩
  have HD : Keep (∀ x : World, Below w.heap.size w x → GlobD x) := ⟨fun x h => hG.keep h⟩
  clear hG
  have qa0 : Has ((w.alloc (.cells (vals .u64 a) 25)).alloc (.cells (vals .u64 b) 25)) (w.heap.size) 25 (vals .u64 a) := ((Has.new _ _ _).alloc _)
  have qb0 : Has ((w.alloc (.cells (vals .u64 a) 25)).alloc (.cells (vals .u64 b) 25)) (w.heap.size + 1) 25 (vals .u64 b) := (Has.new' _ (by simp) _ _)
  have hb0 : Below w.heap.size w ((w.alloc (.cells (vals .u64 a) 25)).alloc (.cells (vals .u64 b) 25)) := (((Below.refl _ _).alloc (by simp <;> omega) _).alloc (by simp <;> omega) _)
  have La : Keep _ := ⟨hla⟩
  have Wa : Keep _ := ⟨hwa⟩
  have Lb : Keep _ := ⟨hlb⟩
  have Wb : Keep _ := ⟨hwb⟩
  clear hs1 hs2 hla hwa hlb hwb
  go_enter Tryd.func5, Tryd.ntmps5
  go_wp2_with (first
    | (go_at_call 18
       refine (awake_c _ (HD.out _ hb0)).mono ?_
       rintro e w1 ⟨rfl, hq⟩
       have qa1 := qa0.keep hq
       have qb1 := qb0.keep hq
       have hb1 := hb0.trans (hq.mono hb0.size)
       clear hq hb0 qa0 qb0))
  refine wp_fam_all (by kernel_rfl) (by kernel_rfl) (fun I hI' fw hf hback => ?_)
  have HGf : Keep (∀ j, Glob (fw j)) := ⟨fun j => HG.out _ (hb1.trans ((hf j).mono hb1.size))⟩
  have HDf : Keep (∀ j, GlobD (fw j)) := ⟨fun j => HD.out _ (hb1.trans ((hf j).mono hb1.size))⟩
  repeat (first
    | (go_big_quiet_want
       refine quiet_load_seg 25 (.tmp 2) (by rfl) (w.heap.size) 0 6 (by rfl) 25 .u64 a a _ (fun w' ⟨i, hi⟩ => by rw [hi]; exact qa1.keep (hf i)) Tryd.underlying25 rfl (by kernel_rfl) (by rw [List.drop_zero, take_all La.out]) (by rw [La.out]; omega) ?_
       simp only [Act.put, List.setIfInBounds_toArray, List.set_cons_zero, List.set_cons_succ]
       go_big_quiet_on)
    | (go_big_quiet_want
       refine quiet_load_seg 25 (.tmp 3) (by rfl) (w.heap.size + 1) 0 6 (by rfl) 25 .u64 b b _ (fun w' ⟨i, hi⟩ => by rw [hi]; exact qb1.keep (hf i)) Tryd.underlying25 rfl (by kernel_rfl) (by rw [List.drop_zero, take_all Lb.out]) (by rw [Lb.out]; omega) ?_
       simp only [Act.put, List.setIfInBounds_toArray, List.set_cons_zero, List.set_cons_succ]
       go_big_quiet_on)
    | go_big_quiet_step (first | fail | (go_at_call 29; with_reducible exact calls_fam hf hback (A1.out _ (HGf.out _))) | (go_at_call 30; with_reducible exact calls_fam hf hback (B1.out _)) | (go_at_call 31; with_reducible exact calls_fam hf hback (A2.out _ (HDf.out _))) | (go_at_call 32; with_reducible exact calls_fam hf hback (B2.out _))))
  refine wpQuiet_nil ?_
  intro w2 hq
  have hb2 := hb1.trans (hq.mono hb1.size)
  clear HDf HGf hf hback hq  hb1 qa1 qb1
  go_wp2
  go_ret
  exact ⟨rfl, hb2⟩

set_option maxRecDepth 100000 in
set_option maxHeartbeats 4000000 in
theorem fpField_w (a : List Int) (hla : a.length = 6) (hwa : Words a) (b : List Int) (hlb : b.length = 6) (hwb : Words b) (c : List Int) (hlc : c.length = 6) (hwc : Words c) (w : World) (hG : GlobD w) : Calls Tryd.prog 8 #[.agg (vals .u64 a), .agg (vals .u64 b), .agg (vals .u64 c)] w fun e w' => e = .returned (.bool true) ∧ Below w.heap.size w w' := by
  have h_la := hla
  have h_wa := hwa
  have h_lb := hlb
  have h_wb := hwb
  have h_lc := hlc
  have h_wc := hwc
  obtain ⟨s1, hs1⟩ : ∃ o, fe (num a + num b) = o := ⟨_, rfl⟩
  have h_ls1 : s1.length = 6 := by rw [← hs1]; exact fe_len _
  have h_ws1 : Words s1 := by rw [← hs1]; exact fe_words _
  have Es1 := eq6 s1 h_ls1
  obtain ⟨m1, hm1⟩ : ∃ o, fe (num a * num b) = o := ⟨_, rfl⟩
  have h_lm1 : m1.length = 6 := by rw [← hm1]; exact fe_len _
  have h_wm1 : Words m1 := by rw [← hm1]; exact fe_words _
  have Em1 := eq6 m1 h_lm1
  obtain ⟨s2, hs2⟩ : ∃ o, fe (num b + num c) = o := ⟨_, rfl⟩
  have h_ls2 : s2.length = 6 := by rw [← hs2]; exact fe_len _
  have h_ws2 : Words s2 := by rw [← hs2]; exact fe_words _
  have Es2 := eq6 s2 h_ls2
  obtain ⟨m2, hm2⟩ : ∃ o, fe (num b * num c) = o := ⟨_, rfl⟩
  have h_lm2 : m2.length = 6 := by rw [← hm2]; exact fe_len _
  have h_wm2 : Words m2 := by rw [← hm2]; exact fe_words _
  have Em2 := eq6 m2 h_lm2
  obtain ⟨m3, hm3⟩ : ∃ o, fe (num a * num c) = o := ⟨_, rfl⟩
  have h_lm3 : m3.length = 6 := by rw [← hm3]; exact fe_len _
  have h_wm3 : Words m3 := by rw [← hm3]; exact fe_words _
  have Em3 := eq6 m3 h_lm3
  obtain ⟨s3, hs3⟩ : ∃ o, fe (num a + num b + num c) = o := ⟨_, rfl⟩
  have h_ls3 : s3.length = 6 := by rw [← hs3]; exact fe_len _
  have h_ws3 : Words s3 := by rw [← hs3]; exact fe_words _
  have Es3 := eq6 s3 h_ls3
  obtain ⟨m4, hm4⟩ : ∃ o, fe (num a * num b * num c) = o := ⟨_, rfl⟩
  have h_lm4 : m4.length = 6 := by rw [← hm4]; exact fe_len _
  have h_wm4 : Words m4 := by rw [← hm4]; exact fe_words _
  have Em4 := eq6 m4 h_lm4
  obtain ⟨d1, hd1⟩ : ∃ o, fe (num a * num b + num a * num c) = o := ⟨_, rfl⟩
  have h_ld1 : d1.length = 6 := by rw [← hd1]; exact fe_len _
  have h_wd1 : Words d1 := by rw [← hd1]; exact fe_words _
  have Ed1 := eq6 d1 h_ld1
  obtain ⟨x1, hx1⟩ : ∃ o, fe (num a) = o := ⟨_, rfl⟩
  have h_lx1 : x1.length = 6 := by rw [← hx1]; exact fe_len _
  have h_wx1 : Words x1 := by rw [← hx1]; exact fe_words _
  have Ex1 := eq6 x1 h_lx1
  have eA1 : fe (num a + num b) = s1 := by exact hs1
  have A1 : Keep _ := ⟨fun w (hG : Glob w) => fpAdd_c a h_la h_wa b h_lb h_wb w hG⟩
  rw [eA1] at A1
  have eA2 : fe (num b + num a) = s1 := by rw [Int.add_comm]; exact hs1
  have A2 : Keep _ := ⟨fun w (hG : Glob w) => fpAdd_c b h_lb h_wb a h_la h_wa w hG⟩
  rw [eA2] at A2
  have eA3 : fe (num a * num b) = m1 := by exact hm1
  have A3 : Keep _ := ⟨fun w (hG : Glob w) => fpMul_c a h_la h_wa b h_lb h_wb w hG⟩
  rw [eA3] at A3
  have eA4 : fe (num b * num a) = m1 := by rw [Int.mul_comm]; exact hm1
  have A4 : Keep _ := ⟨fun w (hG : Glob w) => fpMul_c b h_lb h_wb a h_la h_wa w hG⟩
  rw [eA4] at A4
  have eA5 : fe (num s1 + num c) = s3 := by rw [← hs1, fe_addl]; exact hs3
  have A5 : Keep _ := ⟨fun w (hG : Glob w) => fpAdd_c s1 h_ls1 h_ws1 c h_lc h_wc w hG⟩
  rw [eA5] at A5
  have eA6 : fe (num b + num c) = s2 := by exact hs2
  have A6 : Keep _ := ⟨fun w (hG : Glob w) => fpAdd_c b h_lb h_wb c h_lc h_wc w hG⟩
  rw [eA6] at A6
  have eA7 : fe (num a + num s2) = s3 := by rw [← hs2, fe_addr, ← Int.add_assoc]; exact hs3
  have A7 : Keep _ := ⟨fun w (hG : Glob w) => fpAdd_c a h_la h_wa s2 h_ls2 h_ws2 w hG⟩
  rw [eA7] at A7
  have eA8 : fe (num m1 * num c) = m4 := by rw [← hm1, fe_mull]; exact hm4
  have A8 : Keep _ := ⟨fun w (hG : Glob w) => fpMul_c m1 h_lm1 h_wm1 c h_lc h_wc w hG⟩
  rw [eA8] at A8
  have eA9 : fe (num b * num c) = m2 := by exact hm2
  have A9 : Keep _ := ⟨fun w (hG : Glob w) => fpMul_c b h_lb h_wb c h_lc h_wc w hG⟩
  rw [eA9] at A9
  have eA10 : fe (num a * num m2) = m4 := by rw [← hm2, fe_mulr, ← Int.mul_assoc]; exact hm4
  have A10 : Keep _ := ⟨fun w (hG : Glob w) => fpMul_c a h_la h_wa m2 h_lm2 h_wm2 w hG⟩
  rw [eA10] at A10
  have eA11 : fe (num a * num s2) = d1 := by rw [← hs2, fe_mulr, Int.mul_add]; exact hd1
  have A11 : Keep _ := ⟨fun w (hG : Glob w) => fpMul_c a h_la h_wa s2 h_ls2 h_ws2 w hG⟩
  rw [eA11] at A11
  have eA12 : fe (num a * num c) = m3 := by exact hm3
  have A12 : Keep _ := ⟨fun w (hG : Glob w) => fpMul_c a h_la h_wa c h_lc h_wc w hG⟩
  rw [eA12] at A12
  have eA13 : fe (num m1 + num m3) = d1 := by rw [← hm1, ← hm3, fe_addl, fe_addr]; exact hd1
  have A13 : Keep _ := ⟨fun w (hG : Glob w) => fpAdd_c m1 h_lm1 h_wm1 m3 h_lm3 h_wm3 w hG⟩
  rw [eA13] at A13
  have A14 : Keep _ := ⟨fun w (hG : Glob w) => fpReduce_c a hla hwa w hG⟩
  rw [hx1] at A14
  have h_lZ6 : Z6.length = 6 := rfl
  have h_wZ6 := Z6_words
  have h_lone : ([1, 0, 0, 0, 0, 0] : List Int).length = 6 := rfl
  have h_wone := one_words
  have eA15 : fe (num a + num Z6) = x1 := by rw [num_Z6, Int.add_zero]; exact hx1
  have A15 : Keep _ := ⟨fun w (hG : Glob w) => fpAdd_c a hla hwa Z6 h_lZ6 h_wZ6 w hG⟩
  rw [eA15] at A15
  have eA16 : fe (num a * num [1, 0, 0, 0, 0, 0]) = x1 := by rw [num_one, Int.mul_one]; exact hx1
  have A16 : Keep _ := ⟨fun w (hG : Glob w) => fpMul_c a hla hwa [1, 0, 0, 0, 0, 0] h_lone h_wone w hG⟩
  rw [eA16] at A16
  have eA17 : fe (num a * num Z6) = Z6 := by rw [num_Z6, Int.mul_zero]; exact fe_zero
  have A17 : Keep _ := ⟨fun w (hG : Glob w) => fpMul_c a hla hwa Z6 h_lZ6 h_wZ6 w hG⟩
  rw [eA17] at A17
  have EZ := eq6 Z6 h_lZ6
  have Lx1 : Keep (x1.length = 6) := ⟨h_lx1⟩
  have hgd := gd6
  have HG : Keep (∀ x : World, Below w.heap.size w x → Glob x) := ⟨fun x h => hG.toGlob.keep h⟩
  have HD : Keep (∀ x : World, Below w.heap.size w x → GlobD x) := ⟨fun x h => hG.keep h⟩
  clear hG
  have qa0 : Has (((w.alloc (.cells (vals .u64 a) 25)).alloc (.cells (vals .u64 b) 25)).alloc (.cells (vals .u64 c) 25)) (w.heap.size) 25 (vals .u64 a) := (((Has.new _ _ _).alloc _).alloc _)
  have qb0 : Has (((w.alloc (.cells (vals .u64 a) 25)).alloc (.cells (vals .u64 b) 25)).alloc (.cells (vals .u64 c) 25)) (w.heap.size + 1) 25 (vals .u64 b) := ((Has.new' _ (by simp) _ _).alloc _)
  have qc0 : Has (((w.alloc (.cells (vals .u64 a) 25)).alloc (.cells (vals .u64 b) 25)).alloc (.cells (vals .u64 c) 25)) (w.heap.size + 1 + 1) 25 (vals .u64 c) := (Has.new' _ (by simp) _ _)
  have hb0 : Below w.heap.size w (((w.alloc (.cells (vals .u64 a) 25)).alloc (.cells (vals .u64 b) 25)).alloc (.cells (vals .u64 c) 25)) := ((((Below.refl _ _).alloc (by simp <;> omega) _).alloc (by simp <;> omega) _).alloc (by simp <;> omega) _)
  have La : Keep _ := ⟨hla⟩
  have Wa : Keep _ := ⟨hwa⟩
  have Lb : Keep _ := ⟨hlb⟩
  have Wb : Keep _ := ⟨hwb⟩
  have Lc : Keep _ := ⟨hlc⟩
  have Wc : Keep _ := ⟨hwc⟩
  clear hs1 hm1 hs2 hm2 hm3 hs3 hm4 hd1 hx1 h_ls1 h_ws1 h_lm1 h_wm1 h_ls2 h_ws2 h_lm2 h_wm2 h_lm3 h_wm3 h_ls3 h_ws3 h_lm4 h_wm4 h_ld1 h_wd1 h_lx1 h_wx1 h_la h_wa h_lb h_wb h_lc h_wc h_lZ6 h_wZ6 h_lone h_wone eA1 eA2 eA3 eA4 eA5 eA6 eA7 eA8 eA9 eA10 eA11 eA12 eA13 eA15 eA16 eA17 hla hwa hlb hwb hlc hwc
  go_enter Tryd.func8, Tryd.ntmps8
  go_wp2_with (first
    | (go_at_call 18
       refine (awake_c _ (HD.out _ hb0)).mono ?_
       rintro e w1 ⟨rfl, hq⟩
       have qa1 := qa0.keep hq
       have qb1 := qb0.keep hq
       have qc1 := qc0.keep hq
       have hb1 := hb0.trans (hq.mono hb0.size)
       clear hq hb0 qa0 qb0 qc0))
  refine wp_fam_all (by kernel_rfl) (by kernel_rfl) (fun I hI' fw hf hback => ?_)
  have HGf : Keep (∀ j, Glob (fw j)) := ⟨fun j => HG.out _ (hb1.trans ((hf j).mono hb1.size))⟩
  have HDf : Keep (∀ j, GlobD (fw j)) := ⟨fun j => HD.out _ (hb1.trans ((hf j).mono hb1.size))⟩
  repeat (first
    | (go_big_quiet_want
       refine quiet_load_seg 25 (.tmp 3) (by rfl) (w.heap.size) 0 6 (by rfl) 25 .u64 a a _ (fun w' ⟨i, hi⟩ => by rw [hi]; exact qa1.keep (hf i)) Tryd.underlying25 rfl (by kernel_rfl) (by rw [List.drop_zero, take_all La.out]) (by rw [La.out]; omega) ?_
       simp only [Act.put, List.setIfInBounds_toArray, List.set_cons_zero, List.set_cons_succ]
       go_big_quiet_on)
    | (go_big_quiet_want
       refine quiet_load_seg 25 (.tmp 4) (by rfl) (w.heap.size + 1) 0 6 (by rfl) 25 .u64 b b _ (fun w' ⟨i, hi⟩ => by rw [hi]; exact qb1.keep (hf i)) Tryd.underlying25 rfl (by kernel_rfl) (by rw [List.drop_zero, take_all Lb.out]) (by rw [Lb.out]; omega) ?_
       simp only [Act.put, List.setIfInBounds_toArray, List.set_cons_zero, List.set_cons_succ]
       go_big_quiet_on)
    | (go_big_quiet_want
       refine quiet_load_seg 25 (.tmp 5) (by rfl) (w.heap.size + 1 + 1) 0 6 (by rfl) 25 .u64 c c _ (fun w' ⟨i, hi⟩ => by rw [hi]; exact qc1.keep (hf i)) Tryd.underlying25 rfl (by kernel_rfl) (by rw [List.drop_zero, take_all Lc.out]) (by rw [Lc.out]; omega) ?_
       simp only [Act.put, List.setIfInBounds_toArray, List.set_cons_zero, List.set_cons_succ]
       go_big_quiet_on)
    | go_big_quiet_step (first | fail | (go_at_call 23; with_reducible exact calls_fam hf hback (A1.out _ (HGf.out _))) | (go_at_call 23; with_reducible exact calls_fam hf hback (A2.out _ (HGf.out _))) | (go_at_call 29; with_reducible exact calls_fam hf hback (A3.out _ (HGf.out _))) | (go_at_call 29; with_reducible exact calls_fam hf hback (A4.out _ (HGf.out _)))))
  refine wpQuiet_nil ?_
  intro w2 hq
  have qa2 := qa1.keep hq
  have qb2 := qb1.keep hq
  have qc2 := qc1.keep hq
  have hb2 := hb1.trans (hq.mono hb1.size)
  clear HDf HGf hf hback hq qa1 qb1 qc1 hb1 
  go_wp2
  refine wp_fam_all (by kernel_rfl) (by kernel_rfl) (fun I hI' fw hf hback => ?_)
  have HGf : Keep (∀ j, Glob (fw j)) := ⟨fun j => HG.out _ (hb2.trans ((hf j).mono hb2.size))⟩
  have HDf : Keep (∀ j, GlobD (fw j)) := ⟨fun j => HD.out _ (hb2.trans ((hf j).mono hb2.size))⟩
  repeat (first
    | (go_big_quiet_want
       refine quiet_load_seg 25 (.tmp 3) (by rfl) (w.heap.size) 0 6 (by rfl) 25 .u64 a a _ (fun w' ⟨i, hi⟩ => by rw [hi]; exact qa2.keep (hf i)) Tryd.underlying25 rfl (by kernel_rfl) (by rw [List.drop_zero, take_all La.out]) (by rw [La.out]; omega) ?_
       simp only [Act.put, List.setIfInBounds_toArray, List.set_cons_zero, List.set_cons_succ]
       go_big_quiet_on)
    | (go_big_quiet_want
       refine quiet_load_seg 25 (.tmp 4) (by rfl) (w.heap.size + 1) 0 6 (by rfl) 25 .u64 b b _ (fun w' ⟨i, hi⟩ => by rw [hi]; exact qb2.keep (hf i)) Tryd.underlying25 rfl (by kernel_rfl) (by rw [List.drop_zero, take_all Lb.out]) (by rw [Lb.out]; omega) ?_
       simp only [Act.put, List.setIfInBounds_toArray, List.set_cons_zero, List.set_cons_succ]
       go_big_quiet_on)
    | (go_big_quiet_want
       refine quiet_load_seg 25 (.tmp 5) (by rfl) (w.heap.size + 1 + 1) 0 6 (by rfl) 25 .u64 c c _ (fun w' ⟨i, hi⟩ => by rw [hi]; exact qc2.keep (hf i)) Tryd.underlying25 rfl (by kernel_rfl) (by rw [List.drop_zero, take_all Lc.out]) (by rw [Lc.out]; omega) ?_
       simp only [Act.put, List.setIfInBounds_toArray, List.set_cons_zero, List.set_cons_succ]
       go_big_quiet_on)
    | go_big_quiet_step (first | fail | (go_at_call 23; with_reducible exact calls_fam hf hback (A1.out _ (HGf.out _))) | (go_at_call 23; with_reducible exact calls_fam hf hback (A5.out _ (HGf.out _))) | (go_at_call 23; with_reducible exact calls_fam hf hback (A6.out _ (HGf.out _))) | (go_at_call 23; with_reducible exact calls_fam hf hback (A7.out _ (HGf.out _))) | (go_at_call 29; with_reducible exact calls_fam hf hback (A3.out _ (HGf.out _))) | (go_at_call 29; with_reducible exact calls_fam hf hback (A8.out _ (HGf.out _))) | (go_at_call 29; with_reducible exact calls_fam hf hback (A9.out _ (HGf.out _))) | (go_at_call 29; with_reducible exact calls_fam hf hback (A10.out _ (HGf.out _)))))
  refine wpQuiet_nil ?_
  intro w3 hq
  have qa3 := qa2.keep hq
  have qb3 := qb2.keep hq
  have qc3 := qc2.keep hq
  have hb3 := hb2.trans (hq.mono hb2.size)
  clear HDf HGf hf hback hq qa2 qb2 qc2 hb2 
  go_wp2
  refine wp_fam_all (by kernel_rfl) (by kernel_rfl) (fun I hI' fw hf hback => ?_)
  have HGf : Keep (∀ j, Glob (fw j)) := ⟨fun j => HG.out _ (hb3.trans ((hf j).mono hb3.size))⟩
  have HDf : Keep (∀ j, GlobD (fw j)) := ⟨fun j => HD.out _ (hb3.trans ((hf j).mono hb3.size))⟩
  repeat (first
    | (go_big_quiet_want
       refine quiet_load_seg 25 (.tmp 3) (by rfl) (w.heap.size) 0 6 (by rfl) 25 .u64 a a _ (fun w' ⟨i, hi⟩ => by rw [hi]; exact qa3.keep (hf i)) Tryd.underlying25 rfl (by kernel_rfl) (by rw [List.drop_zero, take_all La.out]) (by rw [La.out]; omega) ?_
       simp only [Act.put, List.setIfInBounds_toArray, List.set_cons_zero, List.set_cons_succ]
       go_big_quiet_on)
    | (go_big_quiet_want
       refine quiet_load_seg 25 (.tmp 4) (by rfl) (w.heap.size + 1) 0 6 (by rfl) 25 .u64 b b _ (fun w' ⟨i, hi⟩ => by rw [hi]; exact qb3.keep (hf i)) Tryd.underlying25 rfl (by kernel_rfl) (by rw [List.drop_zero, take_all Lb.out]) (by rw [Lb.out]; omega) ?_
       simp only [Act.put, List.setIfInBounds_toArray, List.set_cons_zero, List.set_cons_succ]
       go_big_quiet_on)
    | (go_big_quiet_want
       refine quiet_load_seg 25 (.tmp 5) (by rfl) (w.heap.size + 1 + 1) 0 6 (by rfl) 25 .u64 c c _ (fun w' ⟨i, hi⟩ => by rw [hi]; exact qc3.keep (hf i)) Tryd.underlying25 rfl (by kernel_rfl) (by rw [List.drop_zero, take_all Lc.out]) (by rw [Lc.out]; omega) ?_
       simp only [Act.put, List.setIfInBounds_toArray, List.set_cons_zero, List.set_cons_succ]
       go_big_quiet_on)
    | go_big_quiet_step (first | fail | (go_at_call 23; with_reducible exact calls_fam hf hback (A6.out _ (HGf.out _))) | (go_at_call 29; with_reducible exact calls_fam hf hback (A11.out _ (HGf.out _))) | (go_at_call 29; with_reducible exact calls_fam hf hback (A3.out _ (HGf.out _))) | (go_at_call 29; with_reducible exact calls_fam hf hback (A12.out _ (HGf.out _))) | (go_at_call 23; with_reducible exact calls_fam hf hback (A13.out _ (HGf.out _)))))
  refine wpQuiet_nil ?_
  intro w4 hq
  have qa4 := qa3.keep hq
  have qb4 := qb3.keep hq
  have qc4 := qc3.keep hq
  have hb4 := hb3.trans (hq.mono hb3.size)
  clear HDf HGf hf hback hq qa3 qb3 qc3 hb3 
  go_wp2_with (first
    | (refine store_abs2 (by rfl) 25 (.tmp 11) (.tmp 67) (by rfl) (by rfl) w5.heap.size (vals .u64 x1) (by rfl) (by rfl) 25 (vals .u64 Z6) (Has.new' _ rfl _ _) (by rw [vals_size, Lx1.out]; kernel_rfl) (by first | rfl | (rw [vals_size, vals_size, Lx1.out]; rfl)) vals_one ?_
       intro w6 qx6 hkeep hbg
       have hbe := ((Below.refl w5.heap.size w5).alloc (Nat.le_refl _) (.cells (vals .u64 Z6) 25)).trans hbg
       have qa6 := qa5.keep hbe
       have qb6 := qb5.keep hbe
       have qc6 := qc5.keep hbe
       have hb6 := hb5.trans (hbe.mono hb5.size)
       clear hkeep hbg hbe hb5 qa5 qb5 qc5)
    | (go_at_call 21
       refine (A14.out _ (HG.out _ hb4)).mono ?_
       rintro e w5 ⟨rfl, hq⟩
       have qa5 := qa4.keep hq
       have qb5 := qb4.keep hq
       have qc5 := qc4.keep hq
       have hb5 := hb4.trans (hq.mono hb4.size)
       clear hq hb4 qa4 qb4 qc4)
    | (refine wpList_load_row rfl 25 (.tmp 3) rfl (w.heap.size) rfl _ _ _ _ qa4.eq Tryd.underlying25 rfl (by rw [vals_size, La.out]; kernel_rfl) ?_))
  refine wp_fam_all (by kernel_rfl) (by kernel_rfl) (fun I hI' fw hf hback => ?_)
  have HGf : Keep (∀ j, Glob (fw j)) := ⟨fun j => HG.out _ (hb6.trans ((hf j).mono hb6.size))⟩
  have HDf : Keep (∀ j, GlobD (fw j)) := ⟨fun j => HD.out _ (hb6.trans ((hf j).mono hb6.size))⟩
  repeat (first
    | (go_big_quiet_want
       refine quiet_load_seg 25 (.tmp 3) (by rfl) (w.heap.size) 0 6 (by rfl) 25 .u64 a a _ (fun w' ⟨i, hi⟩ => by rw [hi]; exact qa6.keep (hf i)) Tryd.underlying25 rfl (by kernel_rfl) (by rw [List.drop_zero, take_all La.out]) (by rw [La.out]; omega) ?_
       simp only [Act.put, List.setIfInBounds_toArray, List.set_cons_zero, List.set_cons_succ]
       go_big_quiet_on)
    | (go_big_quiet_want
       refine quiet_load_seg 25 (.tmp 11) (by rfl) (w5.heap.size) 0 6 (by rfl) 25 .u64 x1 x1 _ (fun w' ⟨i, hi⟩ => by rw [hi]; exact qx6.keep (hf i)) Tryd.underlying25 rfl (by kernel_rfl) (by rw [List.drop_zero, take_all Lx1.out]) (by rw [Lx1.out]; omega) ?_
       simp only [Act.put, List.setIfInBounds_toArray, List.set_cons_zero, List.set_cons_succ]
       go_big_quiet_on)
    | (go_big_quiet_want
       refine quiet_build 25 #[(0, .const (.int .u64 1))] (by rfl) (vals .u64 [1, 0, 0, 0, 0, 0]) (by kernel_rfl) ?_
       simp only [Act.put, List.setIfInBounds_toArray, List.set_cons_zero, List.set_cons_succ]
       go_big_quiet_on)
    | (go_big_quiet_want
       refine quiet_build 25 #[] (by rfl) (vals .u64 Z6) (by kernel_rfl) ?_
       simp only [Act.put, List.setIfInBounds_toArray, List.set_cons_zero, List.set_cons_succ]
       go_big_quiet_on)
    | go_big_quiet_step (first | fail | (go_at_call 23; with_reducible exact calls_fam hf hback (A15.out _ (HGf.out _))) | (go_at_call 29; with_reducible exact calls_fam hf hback (A16.out _ (HGf.out _))) | (go_at_call 29; with_reducible exact calls_fam hf hback (A17.out _ (HGf.out _)))))
  refine wpQuiet_nil ?_
  intro w7 hq
  have hb7 := hb6.trans (hq.mono hb6.size)
  clear HDf HGf hf hback hq  hb6 qa6 qb6 qc6 qx6
  go_wp2
  go_ret
  exact ⟨rfl, hb7⟩
end Go.Proofs.YtpkfknmpegieaaaDoor.Fp
