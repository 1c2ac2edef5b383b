/-
  Own text. The walks of layer 5's statements: what is told, products, one of two.
-/
import Derived.Test.YtpkfknmpegieaaaDoorFprAwake
import Derived.Test.YtpkfknmpegieaaaDoorFprRef2
namespace Go.Proofs.YtpkfknmpegieaaaDoor.Fpr
set_option linter.unusedVariables false
set_option linter.unusedSimpArgs false
open Go Go.RowKit Go.Proofs.YtpkfknmpegieaaaDoor.Reg Go.Proofs.YtpkfknmpegieaaaDoor.Base Go.Proofs.YtpkfknmpegieaaaDoor.Limb Go.Proofs.YtpkfknmpegieaaaDoor.Bits Go.Proofs.YtpkfknmpegieaaaDoor.Fp

set_option maxRecDepth 100000 in
set_option maxHeartbeats 4000000 in
theorem tells_w (a : List Int) (hla : a.length = 6) (hwa : Words a) (w : World) (hG : Glob w) : Calls Tryd.prog 13 #[.agg (vals .u64 a)] w fun e w' => e = .returned (.bool true) ∧ Below w.heap.size w w' := by
  have S1 : Keep (∀ x : World, Glob x → _) := ⟨fun x (hG : Glob x) => sqrt_c a hla hwa x hG⟩
  have T1 : Keep (∀ x : World, _) := ⟨fun x => refSqrt_c a hla hwa x⟩
  have S2 : Keep (∀ x : World, Glob x → _) := ⟨fun x (hG : Glob x) => is_c a hla hwa x hG⟩
  have T2 : Keep (∀ x : World, _) := ⟨fun x => refIs_c a hla hwa x⟩
  have S3 : Keep (∀ x : World, Glob x → _) := ⟨fun x (hG : Glob x) => sign_c a hla hwa x hG⟩
  have T3 : Keep (∀ x : World, _) := ⟨fun x => refSign_c a hla hwa x⟩
  have S4 : Keep (∀ x : World, Glob x → _) := ⟨fun x (hG : Glob x) => bigger_c a hla hwa x hG⟩
  have T4 : Keep (∀ x : World, _) := ⟨fun x => refBigger_c a hla hwa x⟩
  obtain ⟨r, hr⟩ : ∃ o, (if sq (num a) = true then root (num a) else Z6) = o := ⟨_, rfl⟩
  have Lr : Keep (r.length = 6) := ⟨by rw [← hr]; split; exact ev_len _; rfl⟩
  have Er := eq6 r Lr.out
  obtain ⟨s, hs⟩ : ∃ s, sq (num a) = s := ⟨_, rfl⟩
  obtain ⟨g, hg⟩ : ∃ s, sgn (num a) = s := ⟨_, rfl⟩
  obtain ⟨i, hi⟩ : ∃ s, big (num a) = s := ⟨_, rfl⟩
  rw [hr, hs] at S1 T1
  rw [hs] at S2 T2
  rw [hg] at S3 T3
  rw [hi] at S4 T4
  have La : Keep (a.length = 6) := ⟨hla⟩
  have Lo : Keep (Z6.length = 6) := ⟨rfl⟩
  have hgd := gd6
  obtain ⟨S, hS⟩ : ∃ S, w.heap.size = S := ⟨_, rfl⟩
  have qa0 : Has (w.alloc (.cells (vals .u64 a) 25)) (S) 25 (vals .u64 a) := by exact (Has.new' _ hS.symm _ _)
  have hb0 : Below S w (w.alloc (.cells (vals .u64 a) 25)) := by rw [← hS]; exact ((Below.refl _ _).alloc (Nat.le_refl _) _)
  have hsz0 : (w.alloc (.cells (vals .u64 a) 25)).heap.size = S + 1 := by simp only [World.size_alloc, hS]
  have HS0 : Keep (S ≤ w.heap.size) := ⟨by omega⟩
  have HSS : Keep (∀ x : World, Below S w x → S ≤ x.heap.size) := ⟨fun x hb => Nat.le_trans HS0.out hb.size⟩
  have HG : Keep (∀ x : World, Below S w x → Glob x) := ⟨fun x hb => hG.keep (by rw [hS]; exact hb)⟩
  rw [hS]
  clear hr hs hg hi hla hwa hG
  go_enter Tryd.func13, Tryd.ntmps13
  go_wp2_with (first
    | (refine store_abs2 (by rfl) 25 (.tmp 6) (.tmp 17) (by rfl) (by rfl) (w4.heap.size) (vals .u64 r) (by rfl) (by rfl) 25 (vals .u64 Z6) (Has.new' _ rfl _ _) (by rw [vals_size, Lr.out]; kernel_rfl) (by first | rfl | (rw [vals_size, vals_size, Lr.out]; rfl)) vals_one ?_
       intro w5 qt5 hkeep hbg
       have hbe := ((Below.refl (w4).heap.size (w4)).alloc (Nat.le_refl _) (.cells (vals .u64 Z6) 25)).trans hbg
       have Nat : Keep (S < w4.heap.size) := ⟨qa4.lt⟩
       have Nrt : Keep (w2.heap.size < w4.heap.size) := ⟨qr4.lt⟩
       have Mt : Keep (S ≤ w4.heap.size) := ⟨HSS.out _ hb4⟩
       have qa5 := qa4.keep hbe
       have qr5 := qr4.keep hbe
       have hb5 := hb4.trans (hbe.mono (HSS.out _ hb4))
       clear hkeep hbg hbe hb4 qa4 qr4)
    | (go_at_call 45
       refine (T1.out _).mono ?_
       rintro e w4 ⟨rfl, hq⟩
       have qa4 := qa3.keep hq
       have qr4 := qr3.keep hq
       have hb4 := hb3.trans (hq.mono (HSS.out _ hb3))
       clear hq hb3 qa3 qr3)
    | (refine wpList_load_row rfl 25 (.tmp 1) rfl (S) rfl _ _ _ _ qa3.eq Tryd.underlying25 rfl (by rw [vals_size, La.out]; kernel_rfl) ?_)
    | (refine store_abs2 (by rfl) 25 (.tmp 4) (.tmp 12) (by rfl) (by rfl) (w2.heap.size) (vals .u64 r) (by rfl) (by rfl) 25 (vals .u64 Z6) (Has.new' _ rfl _ _) (by rw [vals_size, Lr.out]; kernel_rfl) (by first | rfl | (rw [vals_size, vals_size, Lr.out]; rfl)) vals_one ?_
       intro w3 qr3 hkeep hbg
       have hbe := ((Below.refl (w2).heap.size (w2)).alloc (Nat.le_refl _) (.cells (vals .u64 Z6) 25)).trans hbg
       have Nar : Keep (S < w2.heap.size) := ⟨qa2.lt⟩
       have Mr : Keep (S ≤ w2.heap.size) := ⟨HSS.out _ hb2⟩
       have qa3 := qa2.keep hbe
       have hb3 := hb2.trans (hbe.mono (HSS.out _ hb2))
       clear hkeep hbg hbe hb2 qa2)
    | (go_at_call 44
       refine (S1.out _ (HG.out _ hb1)).mono ?_
       rintro e w2 ⟨rfl, hq⟩
       have qa2 := qa1.keep hq
       have hb2 := hb1.trans (hq.mono (HSS.out _ hb1))
       clear hq hb1 qa1)
    | (refine wpList_load_row rfl 25 (.tmp 1) rfl (S) rfl _ _ _ _ qa1.eq Tryd.underlying25 rfl (by rw [vals_size, La.out]; kernel_rfl) ?_)
    | (go_at_call 43
       refine (awake_c _ (HG.out _ hb0)).mono ?_
       rintro e w1 ⟨rfl, hq⟩
       have qa1 := qa0.keep hq
       have hb1 := hb0.trans (hq.mono (HSS.out _ hb0))
       clear hq hb0 qa0))
  refine wp_fam_all (by kernel_rfl) (by kernel_rfl) (fun I hI' fw hf hback => ?_)
  have HGf : Keep (∀ j, Glob (fw j)) := ⟨fun j => HG.out _ (hb5.trans ((hf j).mono (HSS.out _ hb5)))⟩
  repeat (first
    | (go_big_quiet_want
       refine quiet_load_seg 25 (.tmp 1) (by rfl) (S) 0 6 (by rfl) 25 .u64 a a _ (fun w' ⟨i, hi⟩ => by rw [hi]; exact qa5.keep (hf i)) Tryd.underlying25 rfl (by kernel_rfl) (by rw [List.drop_zero, take_all La.out]) (by rw [La.out]; omega) ?_
       simp only [Act.put, List.setIfInBounds_toArray, List.set_cons_zero, List.set_cons_succ]
       go_big_quiet_on)
    | (go_big_quiet_want
       refine quiet_load_seg 25 (.tmp 4) (by rfl) (w2.heap.size) 0 6 (by rfl) 25 .u64 r r _ (fun w' ⟨i, hi⟩ => by rw [hi]; exact qr5.keep (hf i)) Tryd.underlying25 rfl (by kernel_rfl) (by rw [List.drop_zero, take_all Lr.out]) (by rw [Lr.out]; omega) ?_
       simp only [Act.put, List.setIfInBounds_toArray, List.set_cons_zero, List.set_cons_succ]
       go_big_quiet_on)
    | (go_big_quiet_want
       refine quiet_load_seg 25 (.tmp 6) (by rfl) (w4.heap.size) 0 6 (by rfl) 25 .u64 r r _ (fun w' ⟨i, hi⟩ => by rw [hi]; exact qt5.keep (hf i)) Tryd.underlying25 rfl (by kernel_rfl) (by rw [List.drop_zero, take_all Lr.out]) (by rw [Lr.out]; omega) ?_
       simp only [Act.put, List.setIfInBounds_toArray, List.set_cons_zero, List.set_cons_succ]
       go_big_quiet_on)
    | go_big_quiet_step (first | fail | (go_at_call 46; with_reducible exact calls_fam hf hback (S2.out _ (HGf.out _))) | (go_at_call 47; with_reducible exact calls_fam hf hback (T2.out _)) | (go_at_call 48; with_reducible exact calls_fam hf hback (S3.out _ (HGf.out _))) | (go_at_call 49; with_reducible exact calls_fam hf hback (T3.out _)) | (go_at_call 50; with_reducible exact calls_fam hf hback (S4.out _ (HGf.out _))) | (go_at_call 51; with_reducible exact calls_fam hf hback (T4.out _))))
  refine wpQuiet_nil ?_
  intro w6 hq
  have qa6 := qa5.keep hq
  have qr6 := qr5.keep hq
  have qt6 := qt5.keep hq
  have hb6 := hb5.trans (hq.mono (HSS.out _ hb5))
  clear HGf hf hback hq hb5 qa5 qr5 qt5 
  go_wp2
  go_ret
  exact ⟨rfl, hb6⟩

set_option maxRecDepth 100000 in
set_option maxHeartbeats 4000000 in
theorem prod_zero (a : List Int) (hla : a.length = 6) (hwa : Words a) (b : List Int) (hlb : b.length = 6) (hwb : Words b) (h : (num a * num b) % PP = 0) (w : World) (hG : Glob w) : Calls Tryd.prog 16 #[.agg (vals .u64 a), .agg (vals .u64 b)] w fun e w' => e = .returned (.bool true) ∧ Below w.heap.size w w' := by
  have h5 : fe (num a * num b) = Z6 := by rw [← fe_zero]; exact (fe_zero_iff _).2 h
  have M1 : Keep (∀ x : World, Glob x → _) := ⟨fun x (hG : Glob x) => fpMul_c a hla hwa b hlb hwb x hG⟩
  rw [h5] at M1
  have I3 : Keep (∀ x : World, Glob x → _) := ⟨fun x (hG : Glob x) => is_c Z6 rfl wZ x hG⟩
  rw [aw_zero.1] at I3
  have EZ := eq6 Z6 rfl
  have La : Keep (a.length = 6) := ⟨hla⟩
  have Lb : Keep (b.length = 6) := ⟨hlb⟩
  have Lo : Keep (Z6.length = 6) := ⟨rfl⟩
  have hgd := gd6
  obtain ⟨S, hS⟩ : ∃ S, w.heap.size = S := ⟨_, rfl⟩
  have qa0 : Has ((w.alloc (.cells (vals .u64 a) 25)).alloc (.cells (vals .u64 b) 25)) (S) 25 (vals .u64 a) := by exact ((Has.new' _ hS.symm _ _).alloc _)
  have qb0 : Has ((w.alloc (.cells (vals .u64 a) 25)).alloc (.cells (vals .u64 b) 25)) (S + 1) 25 (vals .u64 b) := by exact (Has.new' _ (by simp only [World.size_alloc, hS]) _ _)
  have hb0 : Below S w ((w.alloc (.cells (vals .u64 a) 25)).alloc (.cells (vals .u64 b) 25)) := by rw [← hS]; exact (((Below.refl _ _).alloc (Nat.le_refl _) _).alloc (by simp) _)
  have hsz0 : ((w.alloc (.cells (vals .u64 a) 25)).alloc (.cells (vals .u64 b) 25)).heap.size = S + 2 := by simp only [World.size_alloc, hS]
  have HS0 : Keep (S ≤ w.heap.size) := ⟨by omega⟩
  have HSS : Keep (∀ x : World, Below S w x → S ≤ x.heap.size) := ⟨fun x hb => Nat.le_trans HS0.out hb.size⟩
  have HG : Keep (∀ x : World, Below S w x → Glob x) := ⟨fun x hb => hG.keep (by rw [hS]; exact hb)⟩
  rw [hS]
  clear h hla hwa hlb hwb hG h5
  go_enter Tryd.func16, Tryd.ntmps16
  go_wp2_with (first
    | (go_at_call 46
       refine (I3.out _ (HG.out _ hb3)).mono ?_
       rintro e w4 ⟨rfl, hq⟩
       have qa4 := qa3.keep hq
       have qb4 := qb3.keep hq
       have qm4 := qm3.keep hq
       have hb4 := hb3.trans (hq.mono (HSS.out _ hb3))
       clear hq hb3 qa3 qb3 qm3)
    | (refine wpList_free (by rfl) ?_; refine wpList_load_row rfl 25 (.tmp 6) rfl (w2.heap.size) rfl _ _ _ _ qm3.eq Tryd.underlying25 rfl (by rw [vals_size, Lo.out]; kernel_rfl) ?_)
    | (refine wpList_buildTo (by rfl) 25 #[] (by rfl) (some 12) (by rfl) (vals .u64 Z6) (by kernel_rfl) ?_)
    | (refine wpList_load_row rfl 25 (.tmp 6) rfl (w2.heap.size) rfl _ _ _ _ qm3.eq Tryd.underlying25 rfl (by rw [vals_size, Lo.out]; kernel_rfl) ?_)
    | (refine store_abs2 (by rfl) 25 (.tmp 6) (.tmp 10) (by rfl) (by rfl) (w2.heap.size) (vals .u64 Z6) (by rfl) (by rfl) 25 (vals .u64 Z6) (Has.new' _ rfl _ _) (by rw [vals_size, Lo.out]; kernel_rfl) (by first | rfl | (rw [vals_size, vals_size, Lo.out]; rfl)) vals_one ?_
       intro w3 qm3 hkeep hbg
       have hbe := ((Below.refl (w2).heap.size (w2)).alloc (Nat.le_refl _) (.cells (vals .u64 Z6) 25)).trans hbg
       have Nam : Keep (S < w2.heap.size) := ⟨qa2.lt⟩
       have Nbm : Keep (S + 1 < w2.heap.size) := ⟨qb2.lt⟩
       have Mm : Keep (S ≤ w2.heap.size) := ⟨HSS.out _ hb2⟩
       have qa3 := qa2.keep hbe
       have qb3 := qb2.keep hbe
       have hb3 := hb2.trans (hbe.mono (HSS.out _ hb2))
       clear hkeep hbg hbe hb2 qa2 qb2)
    | (go_at_call 29
       refine (M1.out _ (HG.out _ hb1)).mono ?_
       rintro e w2 ⟨rfl, hq⟩
       have qa2 := qa1.keep hq
       have qb2 := qb1.keep hq
       have hb2 := hb1.trans (hq.mono (HSS.out _ hb1))
       clear hq hb1 qa1 qb1)
    | (refine wpList_load_row rfl 25 (.tmp 3) rfl (S + 1) rfl _ _ _ _ qb1.eq Tryd.underlying25 rfl (by rw [vals_size, Lb.out]; kernel_rfl) ?_)
    | (refine wpList_load_row rfl 25 (.tmp 2) rfl (S) rfl _ _ _ _ qa1.eq Tryd.underlying25 rfl (by rw [vals_size, La.out]; kernel_rfl) ?_)
    | (go_at_call 43
       refine (awake_c _ (HG.out _ hb0)).mono ?_
       rintro e w1 ⟨rfl, hq⟩
       have qa1 := qa0.keep hq
       have qb1 := qb0.keep hq
       have hb1 := hb0.trans (hq.mono (HSS.out _ hb0))
       clear hq hb0 qa0 qb0))
  go_ret
  exact ⟨rfl, hb4⟩

set_option maxRecDepth 100000 in
set_option maxHeartbeats 4000000 in
theorem prod_11 (a : List Int) (hla : a.length = 6) (hwa : Words a) (b : List Int) (hlb : b.length = 6) (hwb : Words b) (h : (num a * num b) % PP ≠ 0) (h1 : sq (num a) = true) (h2 : sq (num b) = true) (w : World) (hG : Glob w) : Calls Tryd.prog 16 #[.agg (vals .u64 a), .agg (vals .u64 b)] w fun e w' => e = .returned (.bool true) ∧ Below w.heap.size w w' := by
  have h3 : sq (num (fe (num a * num b))) = true := by rw [sq_fe, sq_mul h, h1, h2]; rfl
  have hne : fe (num a * num b) ≠ Z6 := fun e => h ((fe_zero_iff _).1 (by rw [fe_zero]; exact e))
  have M1 : Keep (∀ x : World, Glob x → _) := ⟨fun x (hG : Glob x) => fpMul_c a hla hwa b hlb hwb x hG⟩
  have I1 : Keep (∀ x : World, Glob x → _) := ⟨fun x (hG : Glob x) => is_c a hla hwa x hG⟩
  rw [h1] at I1
  have I2 : Keep (∀ x : World, Glob x → _) := ⟨fun x (hG : Glob x) => is_c b hlb hwb x hG⟩
  rw [h2] at I2
  have I3 : Keep (∀ x : World, Glob x → _) := ⟨fun x (hG : Glob x) => is_c (fe (num a * num b)) (fe_len _) (fe_words _) x hG⟩
  rw [h3] at I3
  obtain ⟨m, hm⟩ : ∃ o, fe (num a * num b) = o := ⟨_, rfl⟩
  have Lm : Keep (m.length = 6) := ⟨by rw [← hm]; exact fe_len _⟩
  have Em := eq6 m Lm.out
  rw [hm] at M1 I3 hne
  have EN : ∀ w : World, (Op.equalIn 10000 25 (.agg (vals .u64 m)) (.agg (vals .u64 Z6))).run Tryd.prog w = .ok false w := fun w => by rw [eqn6' m Z6 Lm.out rfl, decide_eq_false hne]
  have La : Keep (a.length = 6) := ⟨hla⟩
  have Lb : Keep (b.length = 6) := ⟨hlb⟩
  have Lo : Keep (Z6.length = 6) := ⟨rfl⟩
  have hgd := gd6
  obtain ⟨S, hS⟩ : ∃ S, w.heap.size = S := ⟨_, rfl⟩
  have qa0 : Has ((w.alloc (.cells (vals .u64 a) 25)).alloc (.cells (vals .u64 b) 25)) (S) 25 (vals .u64 a) := by exact ((Has.new' _ hS.symm _ _).alloc _)
  have qb0 : Has ((w.alloc (.cells (vals .u64 a) 25)).alloc (.cells (vals .u64 b) 25)) (S + 1) 25 (vals .u64 b) := by exact (Has.new' _ (by simp only [World.size_alloc, hS]) _ _)
  have hb0 : Below S w ((w.alloc (.cells (vals .u64 a) 25)).alloc (.cells (vals .u64 b) 25)) := by rw [← hS]; exact (((Below.refl _ _).alloc (Nat.le_refl _) _).alloc (by simp) _)
  have hsz0 : ((w.alloc (.cells (vals .u64 a) 25)).alloc (.cells (vals .u64 b) 25)).heap.size = S + 2 := by simp only [World.size_alloc, hS]
  have HS0 : Keep (S ≤ w.heap.size) := ⟨by omega⟩
  have HSS : Keep (∀ x : World, Below S w x → S ≤ x.heap.size) := ⟨fun x hb => Nat.le_trans HS0.out hb.size⟩
  have HG : Keep (∀ x : World, Below S w x → Glob x) := ⟨fun x hb => hG.keep (by rw [hS]; exact hb)⟩
  rw [hS]
  clear h hla hwa hlb hwb hG h1 h2 h3 hne hm
  go_enter Tryd.func16, Tryd.ntmps16
  go_wp2_with (first
    | (refine wpList_buildTo (by rfl) 25 #[] (by rfl) (some 12) (by rfl) (vals .u64 Z6) (by kernel_rfl) ?_)
    | (refine wpList_load_row rfl 25 (.tmp 6) rfl (w2.heap.size) rfl _ _ _ _ qm3.eq Tryd.underlying25 rfl (by rw [vals_size, Lm.out]; kernel_rfl) ?_)
    | (refine store_abs2 (by rfl) 25 (.tmp 6) (.tmp 10) (by rfl) (by rfl) (w2.heap.size) (vals .u64 m) (by rfl) (by rfl) 25 (vals .u64 Z6) (Has.new' _ rfl _ _) (by rw [vals_size, Lm.out]; kernel_rfl) (by first | rfl | (rw [vals_size, vals_size, Lm.out]; rfl)) vals_one ?_
       intro w3 qm3 hkeep hbg
       have hbe := ((Below.refl (w2).heap.size (w2)).alloc (Nat.le_refl _) (.cells (vals .u64 Z6) 25)).trans hbg
       have Nam : Keep (S < w2.heap.size) := ⟨qa2.lt⟩
       have Nbm : Keep (S + 1 < w2.heap.size) := ⟨qb2.lt⟩
       have Mm : Keep (S ≤ w2.heap.size) := ⟨HSS.out _ hb2⟩
       have qa3 := qa2.keep hbe
       have qb3 := qb2.keep hbe
       have hb3 := hb2.trans (hbe.mono (HSS.out _ hb2))
       clear hkeep hbg hbe hb2 qa2 qb2)
    | (go_at_call 29
       refine (M1.out _ (HG.out _ hb1)).mono ?_
       rintro e w2 ⟨rfl, hq⟩
       have qa2 := qa1.keep hq
       have qb2 := qb1.keep hq
       have hb2 := hb1.trans (hq.mono (HSS.out _ hb1))
       clear hq hb1 qa1 qb1)
    | (refine wpList_load_row rfl 25 (.tmp 3) rfl (S + 1) rfl _ _ _ _ qb1.eq Tryd.underlying25 rfl (by rw [vals_size, Lb.out]; kernel_rfl) ?_)
    | (refine wpList_load_row rfl 25 (.tmp 2) rfl (S) rfl _ _ _ _ qa1.eq Tryd.underlying25 rfl (by rw [vals_size, La.out]; kernel_rfl) ?_)
    | (go_at_call 43
       refine (awake_c _ (HG.out _ hb0)).mono ?_
       rintro e w1 ⟨rfl, hq⟩
       have qa1 := qa0.keep hq
       have qb1 := qb0.keep hq
       have hb1 := hb0.trans (hq.mono (HSS.out _ hb0))
       clear hq hb0 qa0 qb0))
  refine wp_fam_all (by kernel_rfl) (by kernel_rfl) (fun I hI' fw hf hback => ?_)
  have HGf : Keep (∀ j, Glob (fw j)) := ⟨fun j => HG.out _ (hb3.trans ((hf j).mono (HSS.out _ hb3)))⟩
  repeat (first
    | (go_big_quiet_want
       refine quiet_load_seg 25 (.tmp 6) (by rfl) (w2.heap.size) 0 6 (by rfl) 25 .u64 m m _ (fun w' ⟨i, hi⟩ => by rw [hi]; exact qm3.keep (hf i)) Tryd.underlying25 rfl (by kernel_rfl) (by rw [List.drop_zero, take_all Lm.out]) (by rw [Lm.out]; omega) ?_
       simp only [Act.put, List.setIfInBounds_toArray, List.set_cons_zero, List.set_cons_succ]
       go_big_quiet_on)
    | (go_big_quiet_want
       refine quiet_load_seg 25 (.tmp 2) (by rfl) (S) 0 6 (by rfl) 25 .u64 a a _ (fun w' ⟨i, hi⟩ => by rw [hi]; exact qa3.keep (hf i)) Tryd.underlying25 rfl (by kernel_rfl) (by rw [List.drop_zero, take_all La.out]) (by rw [La.out]; omega) ?_
       simp only [Act.put, List.setIfInBounds_toArray, List.set_cons_zero, List.set_cons_succ]
       go_big_quiet_on)
    | (go_big_quiet_want
       refine quiet_load_seg 25 (.tmp 3) (by rfl) (S + 1) 0 6 (by rfl) 25 .u64 b b _ (fun w' ⟨i, hi⟩ => by rw [hi]; exact qb3.keep (hf i)) Tryd.underlying25 rfl (by kernel_rfl) (by rw [List.drop_zero, take_all Lb.out]) (by rw [Lb.out]; omega) ?_
       simp only [Act.put, List.setIfInBounds_toArray, List.set_cons_zero, List.set_cons_succ]
       go_big_quiet_on)
    | go_big_quiet_step (first | fail | (go_at_call 46; with_reducible exact calls_fam hf hback (I3.out _ (HGf.out _))) | (go_at_call 46; with_reducible exact calls_fam hf hback (I1.out _ (HGf.out _))) | (go_at_call 46; with_reducible exact calls_fam hf hback (I2.out _ (HGf.out _)))))
  refine wpQuiet_nil ?_
  intro w4 hq
  have qa4 := qa3.keep hq
  have qb4 := qb3.keep hq
  have qm4 := qm3.keep hq
  have hb4 := hb3.trans (hq.mono (HSS.out _ hb3))
  clear HGf hf hback hq hb3 qa3 qb3 qm3 
  go_wp2
  go_ret
  exact ⟨rfl, hb4⟩

set_option maxRecDepth 100000 in
set_option maxHeartbeats 4000000 in
theorem prod_10 (a : List Int) (hla : a.length = 6) (hwa : Words a) (b : List Int) (hlb : b.length = 6) (hwb : Words b) (h : (num a * num b) % PP ≠ 0) (h1 : sq (num a) = true) (h2 : sq (num b) = false) (w : World) (hG : Glob w) : Calls Tryd.prog 16 #[.agg (vals .u64 a), .agg (vals .u64 b)] w fun e w' => e = .returned (.bool true) ∧ Below w.heap.size w w' := by
  have h3 : sq (num (fe (num a * num b))) = false := by rw [sq_fe, sq_mul h, h1, h2]; rfl
  have hne : fe (num a * num b) ≠ Z6 := fun e => h ((fe_zero_iff _).1 (by rw [fe_zero]; exact e))
  have M1 : Keep (∀ x : World, Glob x → _) := ⟨fun x (hG : Glob x) => fpMul_c a hla hwa b hlb hwb x hG⟩
  have I1 : Keep (∀ x : World, Glob x → _) := ⟨fun x (hG : Glob x) => is_c a hla hwa x hG⟩
  rw [h1] at I1
  have I2 : Keep (∀ x : World, Glob x → _) := ⟨fun x (hG : Glob x) => is_c b hlb hwb x hG⟩
  rw [h2] at I2
  have I3 : Keep (∀ x : World, Glob x → _) := ⟨fun x (hG : Glob x) => is_c (fe (num a * num b)) (fe_len _) (fe_words _) x hG⟩
  rw [h3] at I3
  obtain ⟨m, hm⟩ : ∃ o, fe (num a * num b) = o := ⟨_, rfl⟩
  have Lm : Keep (m.length = 6) := ⟨by rw [← hm]; exact fe_len _⟩
  have Em := eq6 m Lm.out
  rw [hm] at M1 I3 hne
  have EN : ∀ w : World, (Op.equalIn 10000 25 (.agg (vals .u64 m)) (.agg (vals .u64 Z6))).run Tryd.prog w = .ok false w := fun w => by rw [eqn6' m Z6 Lm.out rfl, decide_eq_false hne]
  have La : Keep (a.length = 6) := ⟨hla⟩
  have Lb : Keep (b.length = 6) := ⟨hlb⟩
  have Lo : Keep (Z6.length = 6) := ⟨rfl⟩
  have hgd := gd6
  obtain ⟨S, hS⟩ : ∃ S, w.heap.size = S := ⟨_, rfl⟩
  have qa0 : Has ((w.alloc (.cells (vals .u64 a) 25)).alloc (.cells (vals .u64 b) 25)) (S) 25 (vals .u64 a) := by exact ((Has.new' _ hS.symm _ _).alloc _)
  have qb0 : Has ((w.alloc (.cells (vals .u64 a) 25)).alloc (.cells (vals .u64 b) 25)) (S + 1) 25 (vals .u64 b) := by exact (Has.new' _ (by simp only [World.size_alloc, hS]) _ _)
  have hb0 : Below S w ((w.alloc (.cells (vals .u64 a) 25)).alloc (.cells (vals .u64 b) 25)) := by rw [← hS]; exact (((Below.refl _ _).alloc (Nat.le_refl _) _).alloc (by simp) _)
  have hsz0 : ((w.alloc (.cells (vals .u64 a) 25)).alloc (.cells (vals .u64 b) 25)).heap.size = S + 2 := by simp only [World.size_alloc, hS]
  have HS0 : Keep (S ≤ w.heap.size) := ⟨by omega⟩
  have HSS : Keep (∀ x : World, Below S w x → S ≤ x.heap.size) := ⟨fun x hb => Nat.le_trans HS0.out hb.size⟩
  have HG : Keep (∀ x : World, Below S w x → Glob x) := ⟨fun x hb => hG.keep (by rw [hS]; exact hb)⟩
  rw [hS]
  clear h hla hwa hlb hwb hG h1 h2 h3 hne hm
  go_enter Tryd.func16, Tryd.ntmps16
  go_wp2_with (first
    | (refine wpList_buildTo (by rfl) 25 #[] (by rfl) (some 12) (by rfl) (vals .u64 Z6) (by kernel_rfl) ?_)
    | (refine wpList_load_row rfl 25 (.tmp 6) rfl (w2.heap.size) rfl _ _ _ _ qm3.eq Tryd.underlying25 rfl (by rw [vals_size, Lm.out]; kernel_rfl) ?_)
    | (refine store_abs2 (by rfl) 25 (.tmp 6) (.tmp 10) (by rfl) (by rfl) (w2.heap.size) (vals .u64 m) (by rfl) (by rfl) 25 (vals .u64 Z6) (Has.new' _ rfl _ _) (by rw [vals_size, Lm.out]; kernel_rfl) (by first | rfl | (rw [vals_size, vals_size, Lm.out]; rfl)) vals_one ?_
       intro w3 qm3 hkeep hbg
       have hbe := ((Below.refl (w2).heap.size (w2)).alloc (Nat.le_refl _) (.cells (vals .u64 Z6) 25)).trans hbg
       have Nam : Keep (S < w2.heap.size) := ⟨qa2.lt⟩
       have Nbm : Keep (S + 1 < w2.heap.size) := ⟨qb2.lt⟩
       have Mm : Keep (S ≤ w2.heap.size) := ⟨HSS.out _ hb2⟩
       have qa3 := qa2.keep hbe
       have qb3 := qb2.keep hbe
       have hb3 := hb2.trans (hbe.mono (HSS.out _ hb2))
       clear hkeep hbg hbe hb2 qa2 qb2)
    | (go_at_call 29
       refine (M1.out _ (HG.out _ hb1)).mono ?_
       rintro e w2 ⟨rfl, hq⟩
       have qa2 := qa1.keep hq
       have qb2 := qb1.keep hq
       have hb2 := hb1.trans (hq.mono (HSS.out _ hb1))
       clear hq hb1 qa1 qb1)
    | (refine wpList_load_row rfl 25 (.tmp 3) rfl (S + 1) rfl _ _ _ _ qb1.eq Tryd.underlying25 rfl (by rw [vals_size, Lb.out]; kernel_rfl) ?_)
    | (refine wpList_load_row rfl 25 (.tmp 2) rfl (S) rfl _ _ _ _ qa1.eq Tryd.underlying25 rfl (by rw [vals_size, La.out]; kernel_rfl) ?_)
    | (go_at_call 43
       refine (awake_c _ (HG.out _ hb0)).mono ?_
       rintro e w1 ⟨rfl, hq⟩
       have qa1 := qa0.keep hq
       have qb1 := qb0.keep hq
       have hb1 := hb0.trans (hq.mono (HSS.out _ hb0))
       clear hq hb0 qa0 qb0))
  refine wp_fam_all (by kernel_rfl) (by kernel_rfl) (fun I hI' fw hf hback => ?_)
  have HGf : Keep (∀ j, Glob (fw j)) := ⟨fun j => HG.out _ (hb3.trans ((hf j).mono (HSS.out _ hb3)))⟩
  repeat (first
    | (go_big_quiet_want
       refine quiet_load_seg 25 (.tmp 6) (by rfl) (w2.heap.size) 0 6 (by rfl) 25 .u64 m m _ (fun w' ⟨i, hi⟩ => by rw [hi]; exact qm3.keep (hf i)) Tryd.underlying25 rfl (by kernel_rfl) (by rw [List.drop_zero, take_all Lm.out]) (by rw [Lm.out]; omega) ?_
       simp only [Act.put, List.setIfInBounds_toArray, List.set_cons_zero, List.set_cons_succ]
       go_big_quiet_on)
    | (go_big_quiet_want
       refine quiet_load_seg 25 (.tmp 2) (by rfl) (S) 0 6 (by rfl) 25 .u64 a a _ (fun w' ⟨i, hi⟩ => by rw [hi]; exact qa3.keep (hf i)) Tryd.underlying25 rfl (by kernel_rfl) (by rw [List.drop_zero, take_all La.out]) (by rw [La.out]; omega) ?_
       simp only [Act.put, List.setIfInBounds_toArray, List.set_cons_zero, List.set_cons_succ]
       go_big_quiet_on)
    | (go_big_quiet_want
       refine quiet_load_seg 25 (.tmp 3) (by rfl) (S + 1) 0 6 (by rfl) 25 .u64 b b _ (fun w' ⟨i, hi⟩ => by rw [hi]; exact qb3.keep (hf i)) Tryd.underlying25 rfl (by kernel_rfl) (by rw [List.drop_zero, take_all Lb.out]) (by rw [Lb.out]; omega) ?_
       simp only [Act.put, List.setIfInBounds_toArray, List.set_cons_zero, List.set_cons_succ]
       go_big_quiet_on)
    | go_big_quiet_step (first | fail | (go_at_call 46; with_reducible exact calls_fam hf hback (I3.out _ (HGf.out _))) | (go_at_call 46; with_reducible exact calls_fam hf hback (I1.out _ (HGf.out _))) | (go_at_call 46; with_reducible exact calls_fam hf hback (I2.out _ (HGf.out _)))))
  refine wpQuiet_nil ?_
  intro w4 hq
  have qa4 := qa3.keep hq
  have qb4 := qb3.keep hq
  have qm4 := qm3.keep hq
  have hb4 := hb3.trans (hq.mono (HSS.out _ hb3))
  clear HGf hf hback hq hb3 qa3 qb3 qm3 
  go_wp2
  go_ret
  exact ⟨rfl, hb4⟩

set_option maxRecDepth 100000 in
set_option maxHeartbeats 4000000 in
theorem prod_01 (a : List Int) (hla : a.length = 6) (hwa : Words a) (b : List Int) (hlb : b.length = 6) (hwb : Words b) (h : (num a * num b) % PP ≠ 0) (h1 : sq (num a) = false) (h2 : sq (num b) = true) (w : World) (hG : Glob w) : Calls Tryd.prog 16 #[.agg (vals .u64 a), .agg (vals .u64 b)] w fun e w' => e = .returned (.bool true) ∧ Below w.heap.size w w' := by
  have h3 : sq (num (fe (num a * num b))) = false := by rw [sq_fe, sq_mul h, h1, h2]; rfl
  have hne : fe (num a * num b) ≠ Z6 := fun e => h ((fe_zero_iff _).1 (by rw [fe_zero]; exact e))
  have M1 : Keep (∀ x : World, Glob x → _) := ⟨fun x (hG : Glob x) => fpMul_c a hla hwa b hlb hwb x hG⟩
  have I1 : Keep (∀ x : World, Glob x → _) := ⟨fun x (hG : Glob x) => is_c a hla hwa x hG⟩
  rw [h1] at I1
  have I2 : Keep (∀ x : World, Glob x → _) := ⟨fun x (hG : Glob x) => is_c b hlb hwb x hG⟩
  rw [h2] at I2
  have I3 : Keep (∀ x : World, Glob x → _) := ⟨fun x (hG : Glob x) => is_c (fe (num a * num b)) (fe_len _) (fe_words _) x hG⟩
  rw [h3] at I3
  obtain ⟨m, hm⟩ : ∃ o, fe (num a * num b) = o := ⟨_, rfl⟩
  have Lm : Keep (m.length = 6) := ⟨by rw [← hm]; exact fe_len _⟩
  have Em := eq6 m Lm.out
  rw [hm] at M1 I3 hne
  have EN : ∀ w : World, (Op.equalIn 10000 25 (.agg (vals .u64 m)) (.agg (vals .u64 Z6))).run Tryd.prog w = .ok false w := fun w => by rw [eqn6' m Z6 Lm.out rfl, decide_eq_false hne]
  have La : Keep (a.length = 6) := ⟨hla⟩
  have Lb : Keep (b.length = 6) := ⟨hlb⟩
  have Lo : Keep (Z6.length = 6) := ⟨rfl⟩
  have hgd := gd6
  obtain ⟨S, hS⟩ : ∃ S, w.heap.size = S := ⟨_, rfl⟩
  have qa0 : Has ((w.alloc (.cells (vals .u64 a) 25)).alloc (.cells (vals .u64 b) 25)) (S) 25 (vals .u64 a) := by exact ((Has.new' _ hS.symm _ _).alloc _)
  have qb0 : Has ((w.alloc (.cells (vals .u64 a) 25)).alloc (.cells (vals .u64 b) 25)) (S + 1) 25 (vals .u64 b) := by exact (Has.new' _ (by simp only [World.size_alloc, hS]) _ _)
  have hb0 : Below S w ((w.alloc (.cells (vals .u64 a) 25)).alloc (.cells (vals .u64 b) 25)) := by rw [← hS]; exact (((Below.refl _ _).alloc (Nat.le_refl _) _).alloc (by simp) _)
  have hsz0 : ((w.alloc (.cells (vals .u64 a) 25)).alloc (.cells (vals .u64 b) 25)).heap.size = S + 2 := by simp only [World.size_alloc, hS]
  have HS0 : Keep (S ≤ w.heap.size) := ⟨by omega⟩
  have HSS : Keep (∀ x : World, Below S w x → S ≤ x.heap.size) := ⟨fun x hb => Nat.le_trans HS0.out hb.size⟩
  have HG : Keep (∀ x : World, Below S w x → Glob x) := ⟨fun x hb => hG.keep (by rw [hS]; exact hb)⟩
  rw [hS]
  clear h hla hwa hlb hwb hG h1 h2 h3 hne hm
  go_enter Tryd.func16, Tryd.ntmps16
  go_wp2_with (first
    | (refine wpList_buildTo (by rfl) 25 #[] (by rfl) (some 12) (by rfl) (vals .u64 Z6) (by kernel_rfl) ?_)
    | (refine wpList_load_row rfl 25 (.tmp 6) rfl (w2.heap.size) rfl _ _ _ _ qm3.eq Tryd.underlying25 rfl (by rw [vals_size, Lm.out]; kernel_rfl) ?_)
    | (refine store_abs2 (by rfl) 25 (.tmp 6) (.tmp 10) (by rfl) (by rfl) (w2.heap.size) (vals .u64 m) (by rfl) (by rfl) 25 (vals .u64 Z6) (Has.new' _ rfl _ _) (by rw [vals_size, Lm.out]; kernel_rfl) (by first | rfl | (rw [vals_size, vals_size, Lm.out]; rfl)) vals_one ?_
       intro w3 qm3 hkeep hbg
       have hbe := ((Below.refl (w2).heap.size (w2)).alloc (Nat.le_refl _) (.cells (vals .u64 Z6) 25)).trans hbg
       have Nam : Keep (S < w2.heap.size) := ⟨qa2.lt⟩
       have Nbm : Keep (S + 1 < w2.heap.size) := ⟨qb2.lt⟩
       have Mm : Keep (S ≤ w2.heap.size) := ⟨HSS.out _ hb2⟩
       have qa3 := qa2.keep hbe
       have qb3 := qb2.keep hbe
       have hb3 := hb2.trans (hbe.mono (HSS.out _ hb2))
       clear hkeep hbg hbe hb2 qa2 qb2)
    | (go_at_call 29
       refine (M1.out _ (HG.out _ hb1)).mono ?_
       rintro e w2 ⟨rfl, hq⟩
       have qa2 := qa1.keep hq
       have qb2 := qb1.keep hq
       have hb2 := hb1.trans (hq.mono (HSS.out _ hb1))
       clear hq hb1 qa1 qb1)
    | (refine wpList_load_row rfl 25 (.tmp 3) rfl (S + 1) rfl _ _ _ _ qb1.eq Tryd.underlying25 rfl (by rw [vals_size, Lb.out]; kernel_rfl) ?_)
    | (refine wpList_load_row rfl 25 (.tmp 2) rfl (S) rfl _ _ _ _ qa1.eq Tryd.underlying25 rfl (by rw [vals_size, La.out]; kernel_rfl) ?_)
    | (go_at_call 43
       refine (awake_c _ (HG.out _ hb0)).mono ?_
       rintro e w1 ⟨rfl, hq⟩
       have qa1 := qa0.keep hq
       have qb1 := qb0.keep hq
       have hb1 := hb0.trans (hq.mono (HSS.out _ hb0))
       clear hq hb0 qa0 qb0))
  refine wp_fam_all (by kernel_rfl) (by kernel_rfl) (fun I hI' fw hf hback => ?_)
  have HGf : Keep (∀ j, Glob (fw j)) := ⟨fun j => HG.out _ (hb3.trans ((hf j).mono (HSS.out _ hb3)))⟩
  repeat (first
    | (go_big_quiet_want
       refine quiet_load_seg 25 (.tmp 6) (by rfl) (w2.heap.size) 0 6 (by rfl) 25 .u64 m m _ (fun w' ⟨i, hi⟩ => by rw [hi]; exact qm3.keep (hf i)) Tryd.underlying25 rfl (by kernel_rfl) (by rw [List.drop_zero, take_all Lm.out]) (by rw [Lm.out]; omega) ?_
       simp only [Act.put, List.setIfInBounds_toArray, List.set_cons_zero, List.set_cons_succ]
       go_big_quiet_on)
    | (go_big_quiet_want
       refine quiet_load_seg 25 (.tmp 2) (by rfl) (S) 0 6 (by rfl) 25 .u64 a a _ (fun w' ⟨i, hi⟩ => by rw [hi]; exact qa3.keep (hf i)) Tryd.underlying25 rfl (by kernel_rfl) (by rw [List.drop_zero, take_all La.out]) (by rw [La.out]; omega) ?_
       simp only [Act.put, List.setIfInBounds_toArray, List.set_cons_zero, List.set_cons_succ]
       go_big_quiet_on)
    | (go_big_quiet_want
       refine quiet_load_seg 25 (.tmp 3) (by rfl) (S + 1) 0 6 (by rfl) 25 .u64 b b _ (fun w' ⟨i, hi⟩ => by rw [hi]; exact qb3.keep (hf i)) Tryd.underlying25 rfl (by kernel_rfl) (by rw [List.drop_zero, take_all Lb.out]) (by rw [Lb.out]; omega) ?_
       simp only [Act.put, List.setIfInBounds_toArray, List.set_cons_zero, List.set_cons_succ]
       go_big_quiet_on)
    | go_big_quiet_step (first | fail | (go_at_call 46; with_reducible exact calls_fam hf hback (I3.out _ (HGf.out _))) | (go_at_call 46; with_reducible exact calls_fam hf hback (I1.out _ (HGf.out _))) | (go_at_call 46; with_reducible exact calls_fam hf hback (I2.out _ (HGf.out _)))))
  refine wpQuiet_nil ?_
  intro w4 hq
  have qa4 := qa3.keep hq
  have qb4 := qb3.keep hq
  have qm4 := qm3.keep hq
  have hb4 := hb3.trans (hq.mono (HSS.out _ hb3))
  clear HGf hf hback hq hb3 qa3 qb3 qm3 
  go_wp2
  go_ret
  exact ⟨rfl, hb4⟩

set_option maxRecDepth 100000 in
set_option maxHeartbeats 4000000 in
theorem prod_00 (a : List Int) (hla : a.length = 6) (hwa : Words a) (b : List Int) (hlb : b.length = 6) (hwb : Words b) (h : (num a * num b) % PP ≠ 0) (h1 : sq (num a) = false) (h2 : sq (num b) = false) (w : World) (hG : Glob w) : Calls Tryd.prog 16 #[.agg (vals .u64 a), .agg (vals .u64 b)] w fun e w' => e = .returned (.bool true) ∧ Below w.heap.size w w' := by
  have h3 : sq (num (fe (num a * num b))) = true := by rw [sq_fe, sq_mul h, h1, h2]; rfl
  have hne : fe (num a * num b) ≠ Z6 := fun e => h ((fe_zero_iff _).1 (by rw [fe_zero]; exact e))
  have M1 : Keep (∀ x : World, Glob x → _) := ⟨fun x (hG : Glob x) => fpMul_c a hla hwa b hlb hwb x hG⟩
  have I1 : Keep (∀ x : World, Glob x → _) := ⟨fun x (hG : Glob x) => is_c a hla hwa x hG⟩
  rw [h1] at I1
  have I2 : Keep (∀ x : World, Glob x → _) := ⟨fun x (hG : Glob x) => is_c b hlb hwb x hG⟩
  rw [h2] at I2
  have I3 : Keep (∀ x : World, Glob x → _) := ⟨fun x (hG : Glob x) => is_c (fe (num a * num b)) (fe_len _) (fe_words _) x hG⟩
  rw [h3] at I3
  obtain ⟨m, hm⟩ : ∃ o, fe (num a * num b) = o := ⟨_, rfl⟩
  have Lm : Keep (m.length = 6) := ⟨by rw [← hm]; exact fe_len _⟩
  have Em := eq6 m Lm.out
  rw [hm] at M1 I3 hne
  have EN : ∀ w : World, (Op.equalIn 10000 25 (.agg (vals .u64 m)) (.agg (vals .u64 Z6))).run Tryd.prog w = .ok false w := fun w => by rw [eqn6' m Z6 Lm.out rfl, decide_eq_false hne]
  have La : Keep (a.length = 6) := ⟨hla⟩
  have Lb : Keep (b.length = 6) := ⟨hlb⟩
  have Lo : Keep (Z6.length = 6) := ⟨rfl⟩
  have hgd := gd6
  obtain ⟨S, hS⟩ : ∃ S, w.heap.size = S := ⟨_, rfl⟩
  have qa0 : Has ((w.alloc (.cells (vals .u64 a) 25)).alloc (.cells (vals .u64 b) 25)) (S) 25 (vals .u64 a) := by exact ((Has.new' _ hS.symm _ _).alloc _)
  have qb0 : Has ((w.alloc (.cells (vals .u64 a) 25)).alloc (.cells (vals .u64 b) 25)) (S + 1) 25 (vals .u64 b) := by exact (Has.new' _ (by simp only [World.size_alloc, hS]) _ _)
  have hb0 : Below S w ((w.alloc (.cells (vals .u64 a) 25)).alloc (.cells (vals .u64 b) 25)) := by rw [← hS]; exact (((Below.refl _ _).alloc (Nat.le_refl _) _).alloc (by simp) _)
  have hsz0 : ((w.alloc (.cells (vals .u64 a) 25)).alloc (.cells (vals .u64 b) 25)).heap.size = S + 2 := by simp only [World.size_alloc, hS]
  have HS0 : Keep (S ≤ w.heap.size) := ⟨by omega⟩
  have HSS : Keep (∀ x : World, Below S w x → S ≤ x.heap.size) := ⟨fun x hb => Nat.le_trans HS0.out hb.size⟩
  have HG : Keep (∀ x : World, Below S w x → Glob x) := ⟨fun x hb => hG.keep (by rw [hS]; exact hb)⟩
  rw [hS]
  clear h hla hwa hlb hwb hG h1 h2 h3 hne hm
  go_enter Tryd.func16, Tryd.ntmps16
  go_wp2_with (first
    | (refine wpList_buildTo (by rfl) 25 #[] (by rfl) (some 12) (by rfl) (vals .u64 Z6) (by kernel_rfl) ?_)
    | (refine wpList_load_row rfl 25 (.tmp 6) rfl (w2.heap.size) rfl _ _ _ _ qm3.eq Tryd.underlying25 rfl (by rw [vals_size, Lm.out]; kernel_rfl) ?_)
    | (refine store_abs2 (by rfl) 25 (.tmp 6) (.tmp 10) (by rfl) (by rfl) (w2.heap.size) (vals .u64 m) (by rfl) (by rfl) 25 (vals .u64 Z6) (Has.new' _ rfl _ _) (by rw [vals_size, Lm.out]; kernel_rfl) (by first | rfl | (rw [vals_size, vals_size, Lm.out]; rfl)) vals_one ?_
       intro w3 qm3 hkeep hbg
       have hbe := ((Below.refl (w2).heap.size (w2)).alloc (Nat.le_refl _) (.cells (vals .u64 Z6) 25)).trans hbg
       have Nam : Keep (S < w2.heap.size) := ⟨qa2.lt⟩
       have Nbm : Keep (S + 1 < w2.heap.size) := ⟨qb2.lt⟩
       have Mm : Keep (S ≤ w2.heap.size) := ⟨HSS.out _ hb2⟩
       have qa3 := qa2.keep hbe
       have qb3 := qb2.keep hbe
       have hb3 := hb2.trans (hbe.mono (HSS.out _ hb2))
       clear hkeep hbg hbe hb2 qa2 qb2)
    | (go_at_call 29
       refine (M1.out _ (HG.out _ hb1)).mono ?_
       rintro e w2 ⟨rfl, hq⟩
       have qa2 := qa1.keep hq
       have qb2 := qb1.keep hq
       have hb2 := hb1.trans (hq.mono (HSS.out _ hb1))
       clear hq hb1 qa1 qb1)
    | (refine wpList_load_row rfl 25 (.tmp 3) rfl (S + 1) rfl _ _ _ _ qb1.eq Tryd.underlying25 rfl (by rw [vals_size, Lb.out]; kernel_rfl) ?_)
    | (refine wpList_load_row rfl 25 (.tmp 2) rfl (S) rfl _ _ _ _ qa1.eq Tryd.underlying25 rfl (by rw [vals_size, La.out]; kernel_rfl) ?_)
    | (go_at_call 43
       refine (awake_c _ (HG.out _ hb0)).mono ?_
       rintro e w1 ⟨rfl, hq⟩
       have qa1 := qa0.keep hq
       have qb1 := qb0.keep hq
       have hb1 := hb0.trans (hq.mono (HSS.out _ hb0))
       clear hq hb0 qa0 qb0))
  refine wp_fam_all (by kernel_rfl) (by kernel_rfl) (fun I hI' fw hf hback => ?_)
  have HGf : Keep (∀ j, Glob (fw j)) := ⟨fun j => HG.out _ (hb3.trans ((hf j).mono (HSS.out _ hb3)))⟩
  repeat (first
    | (go_big_quiet_want
       refine quiet_load_seg 25 (.tmp 6) (by rfl) (w2.heap.size) 0 6 (by rfl) 25 .u64 m m _ (fun w' ⟨i, hi⟩ => by rw [hi]; exact qm3.keep (hf i)) Tryd.underlying25 rfl (by kernel_rfl) (by rw [List.drop_zero, take_all Lm.out]) (by rw [Lm.out]; omega) ?_
       simp only [Act.put, List.setIfInBounds_toArray, List.set_cons_zero, List.set_cons_succ]
       go_big_quiet_on)
    | (go_big_quiet_want
       refine quiet_load_seg 25 (.tmp 2) (by rfl) (S) 0 6 (by rfl) 25 .u64 a a _ (fun w' ⟨i, hi⟩ => by rw [hi]; exact qa3.keep (hf i)) Tryd.underlying25 rfl (by kernel_rfl) (by rw [List.drop_zero, take_all La.out]) (by rw [La.out]; omega) ?_
       simp only [Act.put, List.setIfInBounds_toArray, List.set_cons_zero, List.set_cons_succ]
       go_big_quiet_on)
    | (go_big_quiet_want
       refine quiet_load_seg 25 (.tmp 3) (by rfl) (S + 1) 0 6 (by rfl) 25 .u64 b b _ (fun w' ⟨i, hi⟩ => by rw [hi]; exact qb3.keep (hf i)) Tryd.underlying25 rfl (by kernel_rfl) (by rw [List.drop_zero, take_all Lb.out]) (by rw [Lb.out]; omega) ?_
       simp only [Act.put, List.setIfInBounds_toArray, List.set_cons_zero, List.set_cons_succ]
       go_big_quiet_on)
    | go_big_quiet_step (first | fail | (go_at_call 46; with_reducible exact calls_fam hf hback (I3.out _ (HGf.out _))) | (go_at_call 46; with_reducible exact calls_fam hf hback (I1.out _ (HGf.out _))) | (go_at_call 46; with_reducible exact calls_fam hf hback (I2.out _ (HGf.out _)))))
  refine wpQuiet_nil ?_
  intro w4 hq
  have qa4 := qa3.keep hq
  have qb4 := qb3.keep hq
  have qm4 := qm3.keep hq
  have hb4 := hb3.trans (hq.mono (HSS.out _ hb3))
  clear HGf hf hback hq hb3 qa3 qb3 qm3 
  go_wp2
  go_ret
  exact ⟨rfl, hb4⟩

theorem products_w (a : List Int) (hla : a.length = 6) (hwa : Words a) (b : List Int) (hlb : b.length = 6) (hwb : Words b) (w : World) (hG : Glob w) : Calls Tryd.prog 16 #[.agg (vals .u64 a), .agg (vals .u64 b)] w fun e w' => e = .returned (.bool true) ∧ Below w.heap.size w w' := by
  by_cases h : (num a * num b) % PP = 0
  · exact prod_zero a hla hwa b hlb hwb h w hG
  · cases h1 : sq (num a) <;> cases h2 : sq (num b)
    · exact prod_00 a hla hwa b hlb hwb h h1 h2 w hG
    · exact prod_01 a hla hwa b hlb hwb h h1 h2 w hG
    · exact prod_10 a hla hwa b hlb hwb h h1 h2 w hG
    · exact prod_11 a hla hwa b hlb hwb h h1 h2 w hG

set_option maxRecDepth 100000 in
set_option maxHeartbeats 4000000 in
theorem one_zero (a : List Int) (hla : a.length = 6) (hwa : Words a) (h : num a % PP = 0) (w : World) (hG : Glob w) : Calls Tryd.prog 15 #[.agg (vals .u64 a)] w fun e w' => e = .returned (.bool true) ∧ Below w.heap.size w w' := by
  have h2 : sq (num a) = true := sq_zero h
  have h3 : sq (num (fe (-num a))) = true := by rw [sq_fe]; exact sq_zero (neg_zero h)
  have h4 : root (num a) = Z6 := by rw [root_zero h, fe_zero]
  have h5 : fe (num a) = Z6 := by rw [← fe_zero]; exact (fe_zero_iff _).2 h
  have S1 : Keep (∀ x : World, Glob x → _) := ⟨fun x (hG : Glob x) => sqrt_c a hla hwa x hG⟩
  rw [if_pos h2, h2, h4] at S1
  have R1 : Keep (∀ x : World, Glob x → _) := ⟨fun x (hG : Glob x) => fpReduce_c a hla hwa x hG⟩
  rw [h5] at R1
  have EZ := eq6 Z6 rfl
  have I1 : Keep (∀ x : World, Glob x → _) := ⟨fun x (hG : Glob x) => is_c a hla hwa x hG⟩
  rw [h2] at I1
  have N1 : Keep (∀ x : World, Glob x → _) := ⟨fun x (hG : Glob x) => fpNeg_c a hla hwa x hG⟩
  have I2 : Keep (∀ x : World, Glob x → _) := ⟨fun x (hG : Glob x) => is_c (fe (-num a)) (fe_len _) (fe_words _) x hG⟩
  rw [h3] at I2
  obtain ⟨n, hn⟩ : ∃ o, fe (-num a) = o := ⟨_, rfl⟩
  rw [hn] at N1 I2
  have La : Keep (a.length = 6) := ⟨hla⟩
  have Lo : Keep (Z6.length = 6) := ⟨rfl⟩
  have hgd := gd6
  obtain ⟨S, hS⟩ : ∃ S, w.heap.size = S := ⟨_, rfl⟩
  have qa0 : Has (w.alloc (.cells (vals .u64 a) 25)) (S) 25 (vals .u64 a) := by exact (Has.new' _ hS.symm _ _)
  have hb0 : Below S w (w.alloc (.cells (vals .u64 a) 25)) := by rw [← hS]; exact ((Below.refl _ _).alloc (Nat.le_refl _) _)
  have hsz0 : (w.alloc (.cells (vals .u64 a) 25)).heap.size = S + 1 := by simp only [World.size_alloc, hS]
  have HS0 : Keep (S ≤ w.heap.size) := ⟨by omega⟩
  have HSS : Keep (∀ x : World, Below S w x → S ≤ x.heap.size) := ⟨fun x hb => Nat.le_trans HS0.out hb.size⟩
  have HG : Keep (∀ x : World, Below S w x → Glob x) := ⟨fun x hb => hG.keep (by rw [hS]; exact hb)⟩
  rw [hS]
  clear hn h h2 h3 hla hwa hG h4 h5
  go_enter Tryd.func15, Tryd.ntmps15
  go_wp2_with (first
    | (refine wpList_free (by rfl) ?_; refine wpList_load_row rfl 25 (.tmp 4) rfl (w2.heap.size) rfl _ _ _ _ qx8.eq Tryd.underlying25 rfl (by rw [vals_size, Lo.out]; kernel_rfl) ?_)
    | (refine wpList_free (by rfl) ?_; refine wpList_load_row rfl 25 (.tmp 5) rfl (w4.heap.size) rfl _ _ _ _ qr8.eq Tryd.underlying25 rfl (by rw [vals_size, Lo.out]; kernel_rfl) ?_)
    | (refine wpList_buildTo (by rfl) 25 #[] (by rfl) (some 23) (by rfl) (vals .u64 Z6) (by kernel_rfl) ?_)
    | (refine wpList_load_row rfl 25 (.tmp 4) rfl (w2.heap.size) rfl _ _ _ _ qx8.eq Tryd.underlying25 rfl (by rw [vals_size, Lo.out]; kernel_rfl) ?_)
    | (go_at_call 46
       refine (I2.out _ (HG.out _ hb7)).mono ?_
       rintro e w8 ⟨rfl, hq⟩
       have qa8 := qa7.keep hq
       have qx8 := qx7.keep hq
       have qr8 := qr7.keep hq
       have hb8 := hb7.trans (hq.mono (HSS.out _ hb7))
       clear hq hb7 qa7 qx7 qr7)
    | (go_at_call 27
       refine (N1.out _ (HG.out _ hb6)).mono ?_
       rintro e w7 ⟨rfl, hq⟩
       have qa7 := qa6.keep hq
       have qx7 := qx6.keep hq
       have qr7 := qr6.keep hq
       have hb7 := hb6.trans (hq.mono (HSS.out _ hb6))
       clear hq hb6 qa6 qx6 qr6)
    | (refine wpList_load_row rfl 25 (.tmp 1) rfl (S) rfl _ _ _ _ qa6.eq Tryd.underlying25 rfl (by rw [vals_size, La.out]; kernel_rfl) ?_)
    | (go_at_call 46
       refine (I1.out _ (HG.out _ hb5)).mono ?_
       rintro e w6 ⟨rfl, hq⟩
       have qa6 := qa5.keep hq
       have qx6 := qx5.keep hq
       have qr6 := qr5.keep hq
       have hb6 := hb5.trans (hq.mono (HSS.out _ hb5))
       clear hq hb5 qa5 qx5 qr5)
    | (refine wpList_load_row rfl 25 (.tmp 1) rfl (S) rfl _ _ _ _ qa5.eq Tryd.underlying25 rfl (by rw [vals_size, La.out]; kernel_rfl) ?_)
    | (refine store_abs2 (by rfl) 25 (.tmp 5) (.tmp 15) (by rfl) (by rfl) (w4.heap.size) (vals .u64 Z6) (by rfl) (by rfl) 25 (vals .u64 Z6) (Has.new' _ rfl _ _) (by rw [vals_size, Lo.out]; kernel_rfl) (by first | rfl | (rw [vals_size, vals_size, Lo.out]; rfl)) vals_one ?_
       intro w5 qr5 hkeep hbg
       have hbe := ((Below.refl (w4).heap.size (w4)).alloc (Nat.le_refl _) (.cells (vals .u64 Z6) 25)).trans hbg
       have Nar : Keep (S < w4.heap.size) := ⟨qa4.lt⟩
       have Nxr : Keep (w2.heap.size < w4.heap.size) := ⟨qx4.lt⟩
       have Mr : Keep (S ≤ w4.heap.size) := ⟨HSS.out _ hb4⟩
       have qa5 := qa4.keep hbe
       have qx5 := qx4.keep hbe
       have hb5 := hb4.trans (hbe.mono (HSS.out _ hb4))
       clear hkeep hbg hbe hb4 qa4 qx4)
    | (go_at_call 44
       refine (S1.out _ (HG.out _ hb3)).mono ?_
       rintro e w4 ⟨rfl, hq⟩
       have qa4 := qa3.keep hq
       have qx4 := qx3.keep hq
       have hb4 := hb3.trans (hq.mono (HSS.out _ hb3))
       clear hq hb3 qa3 qx3)
    | (refine wpList_load_row rfl 25 (.tmp 1) rfl (S) rfl _ _ _ _ qa3.eq Tryd.underlying25 rfl (by rw [vals_size, La.out]; kernel_rfl) ?_)
    | (refine store_abs2 (by rfl) 25 (.tmp 4) (.tmp 11) (by rfl) (by rfl) (w2.heap.size) (vals .u64 Z6) (by rfl) (by rfl) 25 (vals .u64 Z6) (Has.new' _ rfl _ _) (by rw [vals_size, Lo.out]; kernel_rfl) (by first | rfl | (rw [vals_size, vals_size, Lo.out]; rfl)) vals_one ?_
       intro w3 qx3 hkeep hbg
       have hbe := ((Below.refl (w2).heap.size (w2)).alloc (Nat.le_refl _) (.cells (vals .u64 Z6) 25)).trans hbg
       have Nax : Keep (S < w2.heap.size) := ⟨qa2.lt⟩
       have Mx : Keep (S ≤ w2.heap.size) := ⟨HSS.out _ hb2⟩
       have qa3 := qa2.keep hbe
       have hb3 := hb2.trans (hbe.mono (HSS.out _ hb2))
       clear hkeep hbg hbe hb2 qa2)
    | (go_at_call 21
       refine (R1.out _ (HG.out _ hb1)).mono ?_
       rintro e w2 ⟨rfl, hq⟩
       have qa2 := qa1.keep hq
       have hb2 := hb1.trans (hq.mono (HSS.out _ hb1))
       clear hq hb1 qa1)
    | (refine wpList_load_row rfl 25 (.tmp 1) rfl (S) rfl _ _ _ _ qa1.eq Tryd.underlying25 rfl (by rw [vals_size, La.out]; kernel_rfl) ?_)
    | (go_at_call 43
       refine (awake_c _ (HG.out _ hb0)).mono ?_
       rintro e w1 ⟨rfl, hq⟩
       have qa1 := qa0.keep hq
       have hb1 := hb0.trans (hq.mono (HSS.out _ hb0))
       clear hq hb0 qa0))
  go_ret
  exact ⟨rfl, hb8⟩

set_option maxRecDepth 100000 in
set_option maxHeartbeats 4000000 in
theorem one_yes (a : List Int) (hla : a.length = 6) (hwa : Words a) (h : num a % PP ≠ 0) (h2 : sq (num a) = true) (w : World) (hG : Glob w) : Calls Tryd.prog 15 #[.agg (vals .u64 a)] w fun e w' => e = .returned (.bool true) ∧ Below w.heap.size w w' := by
  have h3 : sq (num (fe (-num a))) = false := by rw [sq_fe, sq_neg h, h2]; rfl
  have R1 : Keep (∀ x : World, Glob x → _) := ⟨fun x (hG : Glob x) => fpReduce_c a hla hwa x hG⟩
  have hne : fe (num a) ≠ Z6 := fun e => h ((fe_zero_iff _).1 (by rw [fe_zero]; exact e))
  have h4 := root_two' h2
  have wr := ev_words (pw (num a) QQ)
  have S1 : Keep (∀ x : World, Glob x → _) := ⟨fun x (hG : Glob x) => sqrt_c a hla hwa x hG⟩
  rw [if_pos h2, h2] at S1
  have M1 : Keep (∀ x : World, Glob x → _) := ⟨fun x (hG : Glob x) => fpMul_c (root (num a)) (ev_len _) wr (root (num a)) (ev_len _) wr x hG⟩
  rw [h4] at M1
  obtain ⟨r, hr⟩ : ∃ o, root (num a) = o := ⟨_, rfl⟩
  have Lr : Keep (r.length = 6) := ⟨by rw [← hr]; exact ev_len _⟩
  have Er := eq6 r Lr.out
  obtain ⟨x, hx⟩ : ∃ o, fe (num a) = o := ⟨_, rfl⟩
  have Lx : Keep (x.length = 6) := ⟨by rw [← hx]; exact fe_len _⟩
  have Ex := eq6 x Lx.out
  rw [hr] at S1 M1
  rw [hx] at R1 M1 hne
  have EN : ∀ w : World, (Op.equalIn 10000 25 (.agg (vals .u64 x)) (.agg (vals .u64 Z6))).run Tryd.prog w = .ok false w := fun w => by rw [eqn6' x Z6 Lx.out rfl, decide_eq_false hne]
  have EZ := eq6 Z6 rfl
  have I1 : Keep (∀ x : World, Glob x → _) := ⟨fun x (hG : Glob x) => is_c a hla hwa x hG⟩
  rw [h2] at I1
  have N1 : Keep (∀ x : World, Glob x → _) := ⟨fun x (hG : Glob x) => fpNeg_c a hla hwa x hG⟩
  have I2 : Keep (∀ x : World, Glob x → _) := ⟨fun x (hG : Glob x) => is_c (fe (-num a)) (fe_len _) (fe_words _) x hG⟩
  rw [h3] at I2
  obtain ⟨n, hn⟩ : ∃ o, fe (-num a) = o := ⟨_, rfl⟩
  rw [hn] at N1 I2
  have La : Keep (a.length = 6) := ⟨hla⟩
  have Lo : Keep (Z6.length = 6) := ⟨rfl⟩
  have hgd := gd6
  obtain ⟨S, hS⟩ : ∃ S, w.heap.size = S := ⟨_, rfl⟩
  have qa0 : Has (w.alloc (.cells (vals .u64 a) 25)) (S) 25 (vals .u64 a) := by exact (Has.new' _ hS.symm _ _)
  have hb0 : Below S w (w.alloc (.cells (vals .u64 a) 25)) := by rw [← hS]; exact ((Below.refl _ _).alloc (Nat.le_refl _) _)
  have hsz0 : (w.alloc (.cells (vals .u64 a) 25)).heap.size = S + 1 := by simp only [World.size_alloc, hS]
  have HS0 : Keep (S ≤ w.heap.size) := ⟨by omega⟩
  have HSS : Keep (∀ x : World, Below S w x → S ≤ x.heap.size) := ⟨fun x hb => Nat.le_trans HS0.out hb.size⟩
  have HG : Keep (∀ x : World, Below S w x → Glob x) := ⟨fun x hb => hG.keep (by rw [hS]; exact hb)⟩
  rw [hS]
  clear hn h h2 h3 hla hwa hG hne hx hr h4 wr
  go_enter Tryd.func15, Tryd.ntmps15
  go_wp2_with (first
    | (refine wpList_buildTo (by rfl) 25 #[] (by rfl) (some 23) (by rfl) (vals .u64 Z6) (by kernel_rfl) ?_)
    | (refine wpList_load_row rfl 25 (.tmp 4) rfl (w2.heap.size) rfl _ _ _ _ qx8.eq Tryd.underlying25 rfl (by rw [vals_size, Lx.out]; kernel_rfl) ?_)
    | (go_at_call 46
       refine (I2.out _ (HG.out _ hb7)).mono ?_
       rintro e w8 ⟨rfl, hq⟩
       have qa8 := qa7.keep hq
       have qx8 := qx7.keep hq
       have qr8 := qr7.keep hq
       have hb8 := hb7.trans (hq.mono (HSS.out _ hb7))
       clear hq hb7 qa7 qx7 qr7)
    | (go_at_call 27
       refine (N1.out _ (HG.out _ hb6)).mono ?_
       rintro e w7 ⟨rfl, hq⟩
       have qa7 := qa6.keep hq
       have qx7 := qx6.keep hq
       have qr7 := qr6.keep hq
       have hb7 := hb6.trans (hq.mono (HSS.out _ hb6))
       clear hq hb6 qa6 qx6 qr6)
    | (refine wpList_load_row rfl 25 (.tmp 1) rfl (S) rfl _ _ _ _ qa6.eq Tryd.underlying25 rfl (by rw [vals_size, La.out]; kernel_rfl) ?_)
    | (go_at_call 46
       refine (I1.out _ (HG.out _ hb5)).mono ?_
       rintro e w6 ⟨rfl, hq⟩
       have qa6 := qa5.keep hq
       have qx6 := qx5.keep hq
       have qr6 := qr5.keep hq
       have hb6 := hb5.trans (hq.mono (HSS.out _ hb5))
       clear hq hb5 qa5 qx5 qr5)
    | (refine wpList_load_row rfl 25 (.tmp 1) rfl (S) rfl _ _ _ _ qa5.eq Tryd.underlying25 rfl (by rw [vals_size, La.out]; kernel_rfl) ?_)
    | (refine store_abs2 (by rfl) 25 (.tmp 5) (.tmp 15) (by rfl) (by rfl) (w4.heap.size) (vals .u64 r) (by rfl) (by rfl) 25 (vals .u64 Z6) (Has.new' _ rfl _ _) (by rw [vals_size, Lr.out]; kernel_rfl) (by first | rfl | (rw [vals_size, vals_size, Lr.out]; rfl)) vals_one ?_
       intro w5 qr5 hkeep hbg
       have hbe := ((Below.refl (w4).heap.size (w4)).alloc (Nat.le_refl _) (.cells (vals .u64 Z6) 25)).trans hbg
       have Nar : Keep (S < w4.heap.size) := ⟨qa4.lt⟩
       have Nxr : Keep (w2.heap.size < w4.heap.size) := ⟨qx4.lt⟩
       have Mr : Keep (S ≤ w4.heap.size) := ⟨HSS.out _ hb4⟩
       have qa5 := qa4.keep hbe
       have qx5 := qx4.keep hbe
       have hb5 := hb4.trans (hbe.mono (HSS.out _ hb4))
       clear hkeep hbg hbe hb4 qa4 qx4)
    | (go_at_call 44
       refine (S1.out _ (HG.out _ hb3)).mono ?_
       rintro e w4 ⟨rfl, hq⟩
       have qa4 := qa3.keep hq
       have qx4 := qx3.keep hq
       have hb4 := hb3.trans (hq.mono (HSS.out _ hb3))
       clear hq hb3 qa3 qx3)
    | (refine wpList_load_row rfl 25 (.tmp 1) rfl (S) rfl _ _ _ _ qa3.eq Tryd.underlying25 rfl (by rw [vals_size, La.out]; kernel_rfl) ?_)
    | (refine store_abs2 (by rfl) 25 (.tmp 4) (.tmp 11) (by rfl) (by rfl) (w2.heap.size) (vals .u64 x) (by rfl) (by rfl) 25 (vals .u64 Z6) (Has.new' _ rfl _ _) (by rw [vals_size, Lx.out]; kernel_rfl) (by first | rfl | (rw [vals_size, vals_size, Lx.out]; rfl)) vals_one ?_
       intro w3 qx3 hkeep hbg
       have hbe := ((Below.refl (w2).heap.size (w2)).alloc (Nat.le_refl _) (.cells (vals .u64 Z6) 25)).trans hbg
       have Nax : Keep (S < w2.heap.size) := ⟨qa2.lt⟩
       have Mx : Keep (S ≤ w2.heap.size) := ⟨HSS.out _ hb2⟩
       have qa3 := qa2.keep hbe
       have hb3 := hb2.trans (hbe.mono (HSS.out _ hb2))
       clear hkeep hbg hbe hb2 qa2)
    | (go_at_call 21
       refine (R1.out _ (HG.out _ hb1)).mono ?_
       rintro e w2 ⟨rfl, hq⟩
       have qa2 := qa1.keep hq
       have hb2 := hb1.trans (hq.mono (HSS.out _ hb1))
       clear hq hb1 qa1)
    | (refine wpList_load_row rfl 25 (.tmp 1) rfl (S) rfl _ _ _ _ qa1.eq Tryd.underlying25 rfl (by rw [vals_size, La.out]; kernel_rfl) ?_)
    | (go_at_call 43
       refine (awake_c _ (HG.out _ hb0)).mono ?_
       rintro e w1 ⟨rfl, hq⟩
       have qa1 := qa0.keep hq
       have hb1 := hb0.trans (hq.mono (HSS.out _ hb0))
       clear hq hb0 qa0))
  refine wp_fam_all (by kernel_rfl) (by kernel_rfl) (fun I hI' fw hf hback => ?_)
  have HGf : Keep (∀ j, Glob (fw j)) := ⟨fun j => HG.out _ (hb8.trans ((hf j).mono (HSS.out _ hb8)))⟩
  repeat (first
    | (go_big_quiet_want
       refine quiet_load_seg 25 (.tmp 4) (by rfl) (w2.heap.size) 0 6 (by rfl) 25 .u64 x x _ (fun w' ⟨i, hi⟩ => by rw [hi]; exact qx8.keep (hf i)) Tryd.underlying25 rfl (by kernel_rfl) (by rw [List.drop_zero, take_all Lx.out]) (by rw [Lx.out]; omega) ?_
       simp only [Act.put, List.setIfInBounds_toArray, List.set_cons_zero, List.set_cons_succ]
       go_big_quiet_on)
    | (go_big_quiet_want
       refine quiet_load_seg 25 (.tmp 5) (by rfl) (w4.heap.size) 0 6 (by rfl) 25 .u64 r r _ (fun w' ⟨i, hi⟩ => by rw [hi]; exact qr8.keep (hf i)) Tryd.underlying25 rfl (by kernel_rfl) (by rw [List.drop_zero, take_all Lr.out]) (by rw [Lr.out]; omega) ?_
       simp only [Act.put, List.setIfInBounds_toArray, List.set_cons_zero, List.set_cons_succ]
       go_big_quiet_on)
    | (go_big_quiet_want
       refine quiet_build 25 #[] (by rfl) (vals .u64 Z6) (by kernel_rfl) ?_
       simp only [Act.put, List.setIfInBounds_toArray, List.set_cons_zero, List.set_cons_succ]
       go_big_quiet_on)
    | go_big_quiet_step (first | fail | (go_at_call 29; with_reducible exact calls_fam hf hback (M1.out _ (HGf.out _)))))
  refine wpQuiet_nil ?_
  intro w9 hq
  have qa9 := qa8.keep hq
  have qx9 := qx8.keep hq
  have qr9 := qr8.keep hq
  have hb9 := hb8.trans (hq.mono (HSS.out _ hb8))
  clear HGf hf hback hq hb8 qa8 qx8 qr8 
  go_wp2
  go_ret
  exact ⟨rfl, hb9⟩

set_option maxRecDepth 100000 in
set_option maxHeartbeats 4000000 in
theorem one_no (a : List Int) (hla : a.length = 6) (hwa : Words a) (h : num a % PP ≠ 0) (h2 : sq (num a) = false) (w : World) (hG : Glob w) : Calls Tryd.prog 15 #[.agg (vals .u64 a)] w fun e w' => e = .returned (.bool true) ∧ Below w.heap.size w w' := by
  have h3 : sq (num (fe (-num a))) = true := by rw [sq_fe, sq_neg h, h2]; rfl
  have R1 : Keep (∀ x : World, Glob x → _) := ⟨fun x (hG : Glob x) => fpReduce_c a hla hwa x hG⟩
  have hne : fe (num a) ≠ Z6 := fun e => h ((fe_zero_iff _).1 (by rw [fe_zero]; exact e))
  have S1 : Keep (∀ x : World, Glob x → _) := ⟨fun x (hG : Glob x) => sqrt_c a hla hwa x hG⟩
  rw [h2] at S1
  rw [if_neg (by decide)] at S1
  obtain ⟨x, hx⟩ : ∃ o, fe (num a) = o := ⟨_, rfl⟩
  have Lx : Keep (x.length = 6) := ⟨by rw [← hx]; exact fe_len _⟩
  have Ex := eq6 x Lx.out
  rw [hx] at R1 hne
  have EN : ∀ w : World, (Op.equalIn 10000 25 (.agg (vals .u64 x)) (.agg (vals .u64 Z6))).run Tryd.prog w = .ok false w := fun w => by rw [eqn6' x Z6 Lx.out rfl, decide_eq_false hne]
  have EZ := eq6 Z6 rfl
  have I1 : Keep (∀ x : World, Glob x → _) := ⟨fun x (hG : Glob x) => is_c a hla hwa x hG⟩
  rw [h2] at I1
  have N1 : Keep (∀ x : World, Glob x → _) := ⟨fun x (hG : Glob x) => fpNeg_c a hla hwa x hG⟩
  have I2 : Keep (∀ x : World, Glob x → _) := ⟨fun x (hG : Glob x) => is_c (fe (-num a)) (fe_len _) (fe_words _) x hG⟩
  rw [h3] at I2
  obtain ⟨n, hn⟩ : ∃ o, fe (-num a) = o := ⟨_, rfl⟩
  rw [hn] at N1 I2
  have La : Keep (a.length = 6) := ⟨hla⟩
  have Lo : Keep (Z6.length = 6) := ⟨rfl⟩
  have hgd := gd6
  obtain ⟨S, hS⟩ : ∃ S, w.heap.size = S := ⟨_, rfl⟩
  have qa0 : Has (w.alloc (.cells (vals .u64 a) 25)) (S) 25 (vals .u64 a) := by exact (Has.new' _ hS.symm _ _)
  have hb0 : Below S w (w.alloc (.cells (vals .u64 a) 25)) := by rw [← hS]; exact ((Below.refl _ _).alloc (Nat.le_refl _) _)
  have hsz0 : (w.alloc (.cells (vals .u64 a) 25)).heap.size = S + 1 := by simp only [World.size_alloc, hS]
  have HS0 : Keep (S ≤ w.heap.size) := ⟨by omega⟩
  have HSS : Keep (∀ x : World, Below S w x → S ≤ x.heap.size) := ⟨fun x hb => Nat.le_trans HS0.out hb.size⟩
  have HG : Keep (∀ x : World, Below S w x → Glob x) := ⟨fun x hb => hG.keep (by rw [hS]; exact hb)⟩
  rw [hS]
  clear hn h h2 h3 hla hwa hG hne hx
  go_enter Tryd.func15, Tryd.ntmps15
  go_wp2_with (first
    | (refine wpList_buildTo (by rfl) 25 #[] (by rfl) (some 23) (by rfl) (vals .u64 Z6) (by kernel_rfl) ?_)
    | (refine wpList_load_row rfl 25 (.tmp 4) rfl (w2.heap.size) rfl _ _ _ _ qx8.eq Tryd.underlying25 rfl (by rw [vals_size, Lx.out]; kernel_rfl) ?_)
    | (go_at_call 46
       refine (I2.out _ (HG.out _ hb7)).mono ?_
       rintro e w8 ⟨rfl, hq⟩
       have qa8 := qa7.keep hq
       have qx8 := qx7.keep hq
       have qr8 := qr7.keep hq
       have hb8 := hb7.trans (hq.mono (HSS.out _ hb7))
       clear hq hb7 qa7 qx7 qr7)
    | (go_at_call 27
       refine (N1.out _ (HG.out _ hb6)).mono ?_
       rintro e w7 ⟨rfl, hq⟩
       have qa7 := qa6.keep hq
       have qx7 := qx6.keep hq
       have qr7 := qr6.keep hq
       have hb7 := hb6.trans (hq.mono (HSS.out _ hb6))
       clear hq hb6 qa6 qx6 qr6)
    | (refine wpList_load_row rfl 25 (.tmp 1) rfl (S) rfl _ _ _ _ qa6.eq Tryd.underlying25 rfl (by rw [vals_size, La.out]; kernel_rfl) ?_)
    | (go_at_call 46
       refine (I1.out _ (HG.out _ hb5)).mono ?_
       rintro e w6 ⟨rfl, hq⟩
       have qa6 := qa5.keep hq
       have qx6 := qx5.keep hq
       have qr6 := qr5.keep hq
       have hb6 := hb5.trans (hq.mono (HSS.out _ hb5))
       clear hq hb5 qa5 qx5 qr5)
    | (refine wpList_load_row rfl 25 (.tmp 1) rfl (S) rfl _ _ _ _ qa5.eq Tryd.underlying25 rfl (by rw [vals_size, La.out]; kernel_rfl) ?_)
    | (refine store_abs2 (by rfl) 25 (.tmp 5) (.tmp 15) (by rfl) (by rfl) (w4.heap.size) (vals .u64 Z6) (by rfl) (by rfl) 25 (vals .u64 Z6) (Has.new' _ rfl _ _) (by rw [vals_size, Lo.out]; kernel_rfl) (by first | rfl | (rw [vals_size, vals_size, Lo.out]; rfl)) vals_one ?_
       intro w5 qr5 hkeep hbg
       have hbe := ((Below.refl (w4).heap.size (w4)).alloc (Nat.le_refl _) (.cells (vals .u64 Z6) 25)).trans hbg
       have Nar : Keep (S < w4.heap.size) := ⟨qa4.lt⟩
       have Nxr : Keep (w2.heap.size < w4.heap.size) := ⟨qx4.lt⟩
       have Mr : Keep (S ≤ w4.heap.size) := ⟨HSS.out _ hb4⟩
       have qa5 := qa4.keep hbe
       have qx5 := qx4.keep hbe
       have hb5 := hb4.trans (hbe.mono (HSS.out _ hb4))
       clear hkeep hbg hbe hb4 qa4 qx4)
    | (go_at_call 44
       refine (S1.out _ (HG.out _ hb3)).mono ?_
       rintro e w4 ⟨rfl, hq⟩
       have qa4 := qa3.keep hq
       have qx4 := qx3.keep hq
       have hb4 := hb3.trans (hq.mono (HSS.out _ hb3))
       clear hq hb3 qa3 qx3)
    | (refine wpList_load_row rfl 25 (.tmp 1) rfl (S) rfl _ _ _ _ qa3.eq Tryd.underlying25 rfl (by rw [vals_size, La.out]; kernel_rfl) ?_)
    | (refine store_abs2 (by rfl) 25 (.tmp 4) (.tmp 11) (by rfl) (by rfl) (w2.heap.size) (vals .u64 x) (by rfl) (by rfl) 25 (vals .u64 Z6) (Has.new' _ rfl _ _) (by rw [vals_size, Lx.out]; kernel_rfl) (by first | rfl | (rw [vals_size, vals_size, Lx.out]; rfl)) vals_one ?_
       intro w3 qx3 hkeep hbg
       have hbe := ((Below.refl (w2).heap.size (w2)).alloc (Nat.le_refl _) (.cells (vals .u64 Z6) 25)).trans hbg
       have Nax : Keep (S < w2.heap.size) := ⟨qa2.lt⟩
       have Mx : Keep (S ≤ w2.heap.size) := ⟨HSS.out _ hb2⟩
       have qa3 := qa2.keep hbe
       have hb3 := hb2.trans (hbe.mono (HSS.out _ hb2))
       clear hkeep hbg hbe hb2 qa2)
    | (go_at_call 21
       refine (R1.out _ (HG.out _ hb1)).mono ?_
       rintro e w2 ⟨rfl, hq⟩
       have qa2 := qa1.keep hq
       have hb2 := hb1.trans (hq.mono (HSS.out _ hb1))
       clear hq hb1 qa1)
    | (refine wpList_load_row rfl 25 (.tmp 1) rfl (S) rfl _ _ _ _ qa1.eq Tryd.underlying25 rfl (by rw [vals_size, La.out]; kernel_rfl) ?_)
    | (go_at_call 43
       refine (awake_c _ (HG.out _ hb0)).mono ?_
       rintro e w1 ⟨rfl, hq⟩
       have qa1 := qa0.keep hq
       have hb1 := hb0.trans (hq.mono (HSS.out _ hb0))
       clear hq hb0 qa0))
  refine wp_fam_all (by kernel_rfl) (by kernel_rfl) (fun I hI' fw hf hback => ?_)
  have HGf : Keep (∀ j, Glob (fw j)) := ⟨fun j => HG.out _ (hb8.trans ((hf j).mono (HSS.out _ hb8)))⟩
  repeat (first
    | (go_big_quiet_want
       refine quiet_load_seg 25 (.tmp 4) (by rfl) (w2.heap.size) 0 6 (by rfl) 25 .u64 x x _ (fun w' ⟨i, hi⟩ => by rw [hi]; exact qx8.keep (hf i)) Tryd.underlying25 rfl (by kernel_rfl) (by rw [List.drop_zero, take_all Lx.out]) (by rw [Lx.out]; omega) ?_
       simp only [Act.put, List.setIfInBounds_toArray, List.set_cons_zero, List.set_cons_succ]
       go_big_quiet_on)
    | (go_big_quiet_want
       refine quiet_load_seg 25 (.tmp 5) (by rfl) (w4.heap.size) 0 6 (by rfl) 25 .u64 Z6 Z6 _ (fun w' ⟨i, hi⟩ => by rw [hi]; exact qr8.keep (hf i)) Tryd.underlying25 rfl (by kernel_rfl) (by rw [List.drop_zero, take_all Lo.out]) (by rw [Lo.out]; omega) ?_
       simp only [Act.put, List.setIfInBounds_toArray, List.set_cons_zero, List.set_cons_succ]
       go_big_quiet_on)
    | (go_big_quiet_want
       refine quiet_build 25 #[] (by rfl) (vals .u64 Z6) (by kernel_rfl) ?_
       simp only [Act.put, List.setIfInBounds_toArray, List.set_cons_zero, List.set_cons_succ]
       go_big_quiet_on)
    | go_big_quiet_step (fail))
  refine wpQuiet_nil ?_
  intro w9 hq
  have qa9 := qa8.keep hq
  have qx9 := qx8.keep hq
  have qr9 := qr8.keep hq
  have hb9 := hb8.trans (hq.mono (HSS.out _ hb8))
  clear HGf hf hback hq hb8 qa8 qx8 qr8 
  go_wp2
  go_ret
  exact ⟨rfl, hb9⟩

theorem one_w (a : List Int) (hla : a.length = 6) (hwa : Words a) (w : World) (hG : Glob w) : Calls Tryd.prog 15 #[.agg (vals .u64 a)] w fun e w' => e = .returned (.bool true) ∧ Below w.heap.size w w' := by
  by_cases h : num a % PP = 0
  · exact one_zero a hla hwa h w hG
  · cases h1 : sq (num a)
    · exact one_no a hla hwa h h1 w hG
    · exact one_yes a hla hwa h h1 w hG

end Go.Proofs.YtpkfknmpegieaaaDoor.Fpr
