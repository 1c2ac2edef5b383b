/-
  Own text. The contracts of layer 5's landed package: Sqrt, Bigger.
-/
import Derived.Test.YtpkfknmpegieaaaDoorFprOwn
import Derived.Test.YtpkfknmpegieaaaDoorLimbOwnB
namespace Go.Proofs.YtpkfknmpegieaaaDoor.Fpr
set_option linter.unusedVariables false
set_option linter.unusedSimpArgs false
open Go Go.RowKit Go.Proofs.YtpkfknmpegieaaaDoor.Reg Go.Proofs.YtpkfknmpegieaaaDoor.Base Go.Proofs.YtpkfknmpegieaaaDoor.Limb Go.Proofs.YtpkfknmpegieaaaDoor.Bits Go.Proofs.YtpkfknmpegieaaaDoor.Fp

set_option maxRecDepth 100000 in
set_option maxHeartbeats 2000000 in
theorem even_0 (a : List Int) (hla : a.length = 6) (hwa : Words a) (h : sgn (num a) = 0) (w : World) (hG : Glob w) : Calls Tryd.prog 76 #[.agg (vals .u64 a)] w fun e w' => e = .returned (.bool true) ∧ Below w.heap.size w w' := by
  have P1 : Keep (∀ x : World, Glob x → _) := ⟨fun x (hG : Glob x) => sign_c a hla hwa x hG⟩
  rw [h] at P1
  have La : Keep (a.length = 6) := ⟨hla⟩
  have Lo : Keep (Z6.length = 6) := ⟨rfl⟩
  obtain ⟨S, hS⟩ : ∃ S, w.heap.size = S := ⟨_, rfl⟩
  have qa0 : Has (w.alloc (.cells (vals .u64 a) 25)) (S) 25 (vals .u64 a) := by exact (Has.new' _ hS.symm _ _)
  have hb0 : Below S w (w.alloc (.cells (vals .u64 a) 25)) := by rw [← hS]; exact ((Below.refl _ _).alloc (Nat.le_refl _) _)
  have hsz0 : (w.alloc (.cells (vals .u64 a) 25)).heap.size = S + 1 := by simp only [World.size_alloc, hS]
  have HS0 : Keep (S ≤ w.heap.size) := ⟨by omega⟩
  have HSS : Keep (∀ x : World, Below S w x → S ≤ x.heap.size) := ⟨fun x hb => Nat.le_trans HS0.out hb.size⟩
  have HG : Keep (∀ x : World, Below S w x → Glob x) := ⟨fun x hb => hG.keep (by rw [hS]; exact hb)⟩
  rw [hS]
  clear h hla hwa hG
  go_enter Tryd.func76, Tryd.ntmps76
  go_wp2_with (first
    | (go_at_call 48
       refine (P1.out _ (HG.out _ hb0)).mono ?_
       rintro e w1 ⟨rfl, hq⟩
       have qa1 := qa0.keep hq
       have hb1 := hb0.trans (hq.mono (HSS.out _ hb0))
       clear hq hb0 qa0)
    | (refine wpList_load_row rfl 25 (.tmp 1) rfl (S) rfl _ _ _ _ qa0.eq Tryd.underlying25 rfl (by rw [vals_size, La.out]; kernel_rfl) ?_))
  go_ret
  exact ⟨rfl, hb1⟩

set_option maxRecDepth 100000 in
set_option maxHeartbeats 2000000 in
theorem even_1 (a : List Int) (hla : a.length = 6) (hwa : Words a) (h : sgn (num a) = 1) (w : World) (hG : Glob w) : Calls Tryd.prog 76 #[.agg (vals .u64 a)] w fun e w' => e = .returned (.bool false) ∧ Below w.heap.size w w' := by
  have P1 : Keep (∀ x : World, Glob x → _) := ⟨fun x (hG : Glob x) => sign_c a hla hwa x hG⟩
  rw [h] at P1
  have La : Keep (a.length = 6) := ⟨hla⟩
  have Lo : Keep (Z6.length = 6) := ⟨rfl⟩
  obtain ⟨S, hS⟩ : ∃ S, w.heap.size = S := ⟨_, rfl⟩
  have qa0 : Has (w.alloc (.cells (vals .u64 a) 25)) (S) 25 (vals .u64 a) := by exact (Has.new' _ hS.symm _ _)
  have hb0 : Below S w (w.alloc (.cells (vals .u64 a) 25)) := by rw [← hS]; exact ((Below.refl _ _).alloc (Nat.le_refl _) _)
  have hsz0 : (w.alloc (.cells (vals .u64 a) 25)).heap.size = S + 1 := by simp only [World.size_alloc, hS]
  have HS0 : Keep (S ≤ w.heap.size) := ⟨by omega⟩
  have HSS : Keep (∀ x : World, Below S w x → S ≤ x.heap.size) := ⟨fun x hb => Nat.le_trans HS0.out hb.size⟩
  have HG : Keep (∀ x : World, Below S w x → Glob x) := ⟨fun x hb => hG.keep (by rw [hS]; exact hb)⟩
  rw [hS]
  clear h hla hwa hG
  go_enter Tryd.func76, Tryd.ntmps76
  go_wp2_with (first
    | (go_at_call 48
       refine (P1.out _ (HG.out _ hb0)).mono ?_
       rintro e w1 ⟨rfl, hq⟩
       have qa1 := qa0.keep hq
       have hb1 := hb0.trans (hq.mono (HSS.out _ hb0))
       clear hq hb0 qa0)
    | (refine wpList_load_row rfl 25 (.tmp 1) rfl (S) rfl _ _ _ _ qa0.eq Tryd.underlying25 rfl (by rw [vals_size, La.out]; kernel_rfl) ?_))
  go_ret
  exact ⟨rfl, hb1⟩

set_option maxRecDepth 100000 in
set_option maxHeartbeats 2000000 in
theorem wanted_0 (a : List Int) (hla : a.length = 6) (hwa : Words a) (h : sgn (num a) = 0) (w : World) (hG : Glob w) : Calls Tryd.prog 77 #[.agg (vals .u64 a), .func (.func 76) #[] #[]] w fun e w' => e = .returned (.agg (vals .u64 (a))) ∧ Below w.heap.size w w' := by
  have P1 : Keep (∀ x : World, Glob x → _) := ⟨fun x (hG : Glob x) => even_0 a hla hwa h x hG⟩
  have La : Keep (a.length = 6) := ⟨hla⟩
  have Lo : Keep (Z6.length = 6) := ⟨rfl⟩
  obtain ⟨S, hS⟩ : ∃ S, w.heap.size = S := ⟨_, rfl⟩
  have qa0 : Has ((w.alloc (.cells (vals .u64 a) 25)).alloc (.cells (vals .u64 Z6) 25)) (S) 25 (vals .u64 a) := by exact ((Has.new' _ hS.symm _ _).alloc _)
  have qo0 : Has ((w.alloc (.cells (vals .u64 a) 25)).alloc (.cells (vals .u64 Z6) 25)) (S + 1) 25 (vals .u64 Z6) := by exact (Has.new' _ (by simp only [World.size_alloc, hS]) _ _)
  have hb0 : Below S w ((w.alloc (.cells (vals .u64 a) 25)).alloc (.cells (vals .u64 Z6) 25)) := by rw [← hS]; exact (((Below.refl _ _).alloc (Nat.le_refl _) _).alloc (by simp) _)
  have hsz0 : ((w.alloc (.cells (vals .u64 a) 25)).alloc (.cells (vals .u64 Z6) 25)).heap.size = S + 2 := by simp only [World.size_alloc, hS]
  have HS0 : Keep (S ≤ w.heap.size) := ⟨by omega⟩
  have HSS : Keep (∀ x : World, Below S w x → S ≤ x.heap.size) := ⟨fun x hb => Nat.le_trans HS0.out hb.size⟩
  have HG : Keep (∀ x : World, Below S w x → Glob x) := ⟨fun x hb => hG.keep (by rw [hS]; exact hb)⟩
  rw [hS]
  clear h hla hwa hG
  go_enter Tryd.func77, Tryd.ntmps77
  go_wp2_with (first
    | (refine store_abs2 (by rfl) 25 (.tmp 4) (.tmp 8) (by rfl) (by rfl) (S + 1) (vals .u64 a) (by rfl) (by rfl) 25 _ qo1 (by rw [vals_size, La.out]; kernel_rfl) (by first | rfl | (rw [vals_size, vals_size, La.out]; rfl) | rw [vals_size, vals_size, La.out, Lo.out]) vals_one ?_
       intro w2 qo2 hkeep hbg
       have qa2 := hkeep _ _ _ qa1 (by omega)
       have hb2 := hb1.trans (hbg.mono (by omega))
       clear hkeep hbg hb1 qa1 qo1)
    | (refine wpList_load_row rfl 25 (.tmp 2) rfl (S) rfl _ _ _ _ qa1.eq Tryd.underlying25 rfl (by rw [vals_size, La.out]; kernel_rfl) ?_)
    | (go_at_call 76
       refine (P1.out _ (HG.out _ hb0)).mono ?_
       rintro e w1 ⟨rfl, hq⟩
       have qa1 := qa0.keep hq
       have qo1 := qo0.keep hq
       have hb1 := hb0.trans (hq.mono (HSS.out _ hb0))
       clear hq hb0 qa0 qo0)
    | (refine wpList_load_row rfl 25 (.tmp 2) rfl (S) rfl _ _ _ _ qa0.eq Tryd.underlying25 rfl (by rw [vals_size, La.out]; kernel_rfl) ?_))
  refine bodyPost_ret (v := .agg (vals .u64 a)) (results_cell_row rfl _ _ (S + 1) _ _ _ _ rfl qo2.eq Tryd.underlying25 rfl (by rw [vals_size, La.out]; kernel_rfl)) rfl ⟨rfl, hb2⟩

set_option maxRecDepth 100000 in
set_option maxHeartbeats 2000000 in
theorem wanted_1 (a : List Int) (hla : a.length = 6) (hwa : Words a) (h : sgn (num a) = 1) (w : World) (hG : Glob w) : Calls Tryd.prog 77 #[.agg (vals .u64 a), .func (.func 76) #[] #[]] w fun e w' => e = .returned (.agg (vals .u64 (fe (-num a)))) ∧ Below w.heap.size w w' := by
  have P1 : Keep (∀ x : World, Glob x → _) := ⟨fun x (hG : Glob x) => even_1 a hla hwa h x hG⟩
  have P2 : Keep (∀ x : World, Glob x → _) := ⟨fun x (hG : Glob x) => fpNeg_c a hla hwa x hG⟩
  obtain ⟨n, hn⟩ : ∃ o, fe (-num a) = o := ⟨_, rfl⟩
  have Ln : Keep (n.length = 6) := ⟨by rw [← hn]; exact fe_len _⟩
  rw [hn] at P2 ⊢
  have La : Keep (a.length = 6) := ⟨hla⟩
  have Lo : Keep (Z6.length = 6) := ⟨rfl⟩
  obtain ⟨S, hS⟩ : ∃ S, w.heap.size = S := ⟨_, rfl⟩
  have qa0 : Has ((w.alloc (.cells (vals .u64 a) 25)).alloc (.cells (vals .u64 Z6) 25)) (S) 25 (vals .u64 a) := by exact ((Has.new' _ hS.symm _ _).alloc _)
  have qo0 : Has ((w.alloc (.cells (vals .u64 a) 25)).alloc (.cells (vals .u64 Z6) 25)) (S + 1) 25 (vals .u64 Z6) := by exact (Has.new' _ (by simp only [World.size_alloc, hS]) _ _)
  have hb0 : Below S w ((w.alloc (.cells (vals .u64 a) 25)).alloc (.cells (vals .u64 Z6) 25)) := by rw [← hS]; exact (((Below.refl _ _).alloc (Nat.le_refl _) _).alloc (by simp) _)
  have hsz0 : ((w.alloc (.cells (vals .u64 a) 25)).alloc (.cells (vals .u64 Z6) 25)).heap.size = S + 2 := by simp only [World.size_alloc, hS]
  have HS0 : Keep (S ≤ w.heap.size) := ⟨by omega⟩
  have HSS : Keep (∀ x : World, Below S w x → S ≤ x.heap.size) := ⟨fun x hb => Nat.le_trans HS0.out hb.size⟩
  have HG : Keep (∀ x : World, Below S w x → Glob x) := ⟨fun x hb => hG.keep (by rw [hS]; exact hb)⟩
  rw [hS]
  clear h hla hwa hG hn
  go_enter Tryd.func77, Tryd.ntmps77
  go_wp2_with (first
    | (refine store_abs2 (by rfl) 25 (.tmp 4) (.tmp 10) (by rfl) (by rfl) (S + 1) (vals .u64 n) (by rfl) (by rfl) 25 _ qo2 (by rw [vals_size, Ln.out]; kernel_rfl) (by first | rfl | (rw [vals_size, vals_size, Ln.out]; rfl) | rw [vals_size, vals_size, Ln.out, Lo.out]) vals_one ?_
       intro w3 qo3 hkeep hbg
       have qa3 := hkeep _ _ _ qa2 (by omega)
       have hb3 := hb2.trans (hbg.mono (by omega))
       clear hkeep hbg hb2 qa2 qo2)
    | (go_at_call 27
       refine (P2.out _ (HG.out _ hb1)).mono ?_
       rintro e w2 ⟨rfl, hq⟩
       have qa2 := qa1.keep hq
       have qo2 := qo1.keep hq
       have hb2 := hb1.trans (hq.mono (HSS.out _ hb1))
       clear hq hb1 qa1 qo1)
    | (refine wpList_load_row rfl 25 (.tmp 2) rfl (S) rfl _ _ _ _ qa1.eq Tryd.underlying25 rfl (by rw [vals_size, La.out]; kernel_rfl) ?_)
    | (go_at_call 76
       refine (P1.out _ (HG.out _ hb0)).mono ?_
       rintro e w1 ⟨rfl, hq⟩
       have qa1 := qa0.keep hq
       have qo1 := qo0.keep hq
       have hb1 := hb0.trans (hq.mono (HSS.out _ hb0))
       clear hq hb0 qa0 qo0)
    | (refine wpList_load_row rfl 25 (.tmp 2) rfl (S) rfl _ _ _ _ qa0.eq Tryd.underlying25 rfl (by rw [vals_size, La.out]; kernel_rfl) ?_))
  refine bodyPost_ret (v := .agg (vals .u64 n)) (results_cell_row rfl _ _ (S + 1) _ _ _ _ rfl qo3.eq Tryd.underlying25 rfl (by rw [vals_size, Ln.out]; kernel_rfl)) rfl ⟨rfl, hb3⟩

set_option maxRecDepth 100000 in
set_option maxHeartbeats 2000000 in
theorem sqrt_no (a : List Int) (hla : a.length = 6) (hwa : Words a) (h : sq (num a) = false) (w : World) (hG : Glob w) : Calls Tryd.prog 44 #[.agg (vals .u64 a)] w fun e w' => e = .returned (.tuple #[.agg (vals .u64 (Z6)), .bool false]) ∧ Below w.heap.size w w' := by
  have P1 : Keep (∀ x : World, Glob x → _) := ⟨fun x (hG : Glob x) => someRoot_c a hla hwa x hG⟩
  rw [h] at P1
  obtain ⟨r, hr⟩ : ∃ o, fe (pw (num a) QQ) = o := ⟨_, rfl⟩
  have Lr : Keep (r.length = 6) := ⟨by rw [← hr]; exact fe_len _⟩
  rw [hr] at P1
  have La : Keep (a.length = 6) := ⟨hla⟩
  have Lo : Keep (Z6.length = 6) := ⟨rfl⟩
  obtain ⟨S, hS⟩ : ∃ S, w.heap.size = S := ⟨_, rfl⟩
  have qa0 : Has ((w.alloc (.cells (vals .u64 a) 25)).alloc (.cells (vals .u64 Z6) 25)) (S) 25 (vals .u64 a) := by exact ((Has.new' _ hS.symm _ _).alloc _)
  have qo0 : Has ((w.alloc (.cells (vals .u64 a) 25)).alloc (.cells (vals .u64 Z6) 25)) (S + 1) 25 (vals .u64 Z6) := by exact (Has.new' _ (by simp only [World.size_alloc, hS]) _ _)
  have hb0 : Below S w ((w.alloc (.cells (vals .u64 a) 25)).alloc (.cells (vals .u64 Z6) 25)) := by rw [← hS]; exact (((Below.refl _ _).alloc (Nat.le_refl _) _).alloc (by simp) _)
  have hsz0 : ((w.alloc (.cells (vals .u64 a) 25)).alloc (.cells (vals .u64 Z6) 25)).heap.size = S + 2 := by simp only [World.size_alloc, hS]
  have HS0 : Keep (S ≤ w.heap.size) := ⟨by omega⟩
  have HSS : Keep (∀ x : World, Below S w x → S ≤ x.heap.size) := ⟨fun x hb => Nat.le_trans HS0.out hb.size⟩
  have HG : Keep (∀ x : World, Below S w x → Glob x) := ⟨fun x hb => hG.keep (by rw [hS]; exact hb)⟩
  rw [hS]
  clear h hla hwa hr hG
  go_enter Tryd.func44, Tryd.ntmps44
  go_wp2_with (first
    | (refine store_abs2 (by rfl) 25 (.tmp 2) (.tmp 14) (by rfl) (by rfl) (S + 1) (vals .u64 Z6) (by rfl) (by rfl) 25 _ qo2 (by rw [vals_size, Lo.out]; kernel_rfl) (by first | rfl | (rw [vals_size, vals_size, Lo.out]; rfl) | rw [vals_size, vals_size, Lo.out, Lo.out]) vals_one ?_
       intro w3 qo3 hkeep hbg
       have qa3 := hkeep _ _ _ qa2 (by omega)
       have qr3 := hkeep _ _ _ qr2 (Nat.ne_of_gt Nor.out)
       have hb3 := hb2.trans (hbg.mono (by omega))
       clear hkeep hbg hb2 qa2 qo2 qr2)
    | (refine wpList_buildTo (by rfl) 25 #[] (by rfl) (some 14) (by rfl) (vals .u64 Z6) (by kernel_rfl) ?_)
    | (refine store_abs2 (by rfl) 25 (.tmp 4) (.tmp 10) (by rfl) (by rfl) (w1.heap.size) (vals .u64 r) (by rfl) (by rfl) 25 (vals .u64 Z6) (Has.new' _ rfl _ _) (by rw [vals_size, Lr.out]; kernel_rfl) (by first | rfl | (rw [vals_size, vals_size, Lr.out]; rfl)) vals_one ?_
       intro w2 qr2 hkeep hbg
       have hbe := ((Below.refl (w1).heap.size (w1)).alloc (Nat.le_refl _) (.cells (vals .u64 Z6) 25)).trans hbg
       have Nar : Keep (S < w1.heap.size) := ⟨qa1.lt⟩
       have Nor : Keep (S + 1 < w1.heap.size) := ⟨qo1.lt⟩
       have Mr : Keep (S ≤ w1.heap.size) := ⟨HSS.out _ hb1⟩
       have qa2 := qa1.keep hbe
       have qo2 := qo1.keep hbe
       have hb2 := hb1.trans (hbe.mono (HSS.out _ hb1))
       clear hkeep hbg hbe hb1 qa1 qo1)
    | (go_at_call 75
       refine (P1.out _ (HG.out _ hb0)).mono ?_
       rintro e w1 ⟨rfl, hq⟩
       have qa1 := qa0.keep hq
       have qo1 := qo0.keep hq
       have hb1 := hb0.trans (hq.mono (HSS.out _ hb0))
       clear hq hb0 qa0 qo0)
    | (refine wpList_load_row rfl 25 (.tmp 1) rfl (S) rfl _ _ _ _ qa0.eq Tryd.underlying25 rfl (by rw [vals_size, La.out]; kernel_rfl) ?_))
  refine bodyPost_ret (v := .tuple #[.agg (vals .u64 Z6), .bool false]) (results_row_tmp rfl _ _ (S + 1) _ _ _ _ _ rfl rfl qo3.eq Tryd.underlying25 rfl (by rw [vals_size, Lo.out]; kernel_rfl)) rfl ⟨rfl, hb3⟩

set_option maxRecDepth 100000 in
set_option maxHeartbeats 2000000 in
theorem sqrt_yes0 (a : List Int) (hla : a.length = 6) (hwa : Words a) (h : sq (num a) = true) (h2 : sgn (pw (num a) QQ) = 0) (w : World) (hG : Glob w) : Calls Tryd.prog 44 #[.agg (vals .u64 a)] w fun e w' => e = .returned (.tuple #[.agg (vals .u64 (root (num a))), .bool true]) ∧ Below w.heap.size w w' := by
  have P1 : Keep (∀ x : World, Glob x → _) := ⟨fun x (hG : Glob x) => someRoot_c a hla hwa x hG⟩
  rw [h] at P1
  have wr : Words (fe (pw (num a) QQ)) := fe_words _
  have h3 : sgn (num (fe (pw (num a) QQ))) = 0 := by rw [sgn_fe]; exact h2
  have er : root (num a) = fe (pw (num a) QQ) := by
    rw [root, ev_sgn, h2]
    rfl
  obtain ⟨r, hr⟩ : ∃ o, fe (pw (num a) QQ) = o := ⟨_, rfl⟩
  have Lr : Keep (r.length = 6) := ⟨by rw [← hr]; exact fe_len _⟩
  rw [hr] at P1 wr h3 er
  rw [er]
  have P2 : Keep (∀ x : World, Glob x → _) := ⟨fun x (hG : Glob x) => wanted_0 r Lr.out wr h3 x hG⟩
  have La : Keep (a.length = 6) := ⟨hla⟩
  have Lo : Keep (Z6.length = 6) := ⟨rfl⟩
  obtain ⟨S, hS⟩ : ∃ S, w.heap.size = S := ⟨_, rfl⟩
  have qa0 : Has ((w.alloc (.cells (vals .u64 a) 25)).alloc (.cells (vals .u64 Z6) 25)) (S) 25 (vals .u64 a) := by exact ((Has.new' _ hS.symm _ _).alloc _)
  have qo0 : Has ((w.alloc (.cells (vals .u64 a) 25)).alloc (.cells (vals .u64 Z6) 25)) (S + 1) 25 (vals .u64 Z6) := by exact (Has.new' _ (by simp only [World.size_alloc, hS]) _ _)
  have hb0 : Below S w ((w.alloc (.cells (vals .u64 a) 25)).alloc (.cells (vals .u64 Z6) 25)) := by rw [← hS]; exact (((Below.refl _ _).alloc (Nat.le_refl _) _).alloc (by simp) _)
  have hsz0 : ((w.alloc (.cells (vals .u64 a) 25)).alloc (.cells (vals .u64 Z6) 25)).heap.size = S + 2 := by simp only [World.size_alloc, hS]
  have HS0 : Keep (S ≤ w.heap.size) := ⟨by omega⟩
  have HSS : Keep (∀ x : World, Below S w x → S ≤ x.heap.size) := ⟨fun x hb => Nat.le_trans HS0.out hb.size⟩
  have HG : Keep (∀ x : World, Below S w x → Glob x) := ⟨fun x hb => hG.keep (by rw [hS]; exact hb)⟩
  rw [hS]
  clear h hla hwa hr h2 h3 er wr hG
  go_enter Tryd.func44, Tryd.ntmps44
  go_wp2_with (first
    | (refine store_abs2 (by rfl) 25 (.tmp 2) (.tmp 17) (by rfl) (by rfl) (S + 1) (vals .u64 r) (by rfl) (by rfl) 25 _ qo3 (by rw [vals_size, Lr.out]; kernel_rfl) (by first | rfl | (rw [vals_size, vals_size, Lr.out]; rfl) | rw [vals_size, vals_size, Lr.out, Lo.out]) vals_one ?_
       intro w4 qo4 hkeep hbg
       have qa4 := hkeep _ _ _ qa3 (by omega)
       have qr4 := hkeep _ _ _ qr3 (Nat.ne_of_gt Nor.out)
       have hb4 := hb3.trans (hbg.mono (by omega))
       clear hkeep hbg hb3 qa3 qo3 qr3)
    | (go_at_call 77
       refine (P2.out _ (HG.out _ hb2)).mono ?_
       rintro e w3 ⟨rfl, hq⟩
       have qa3 := qa2.keep hq
       have qo3 := qo2.keep hq
       have qr3 := qr2.keep hq
       have hb3 := hb2.trans (hq.mono (HSS.out _ hb2))
       clear hq hb2 qa2 qo2 qr2)
    | (refine wpList_load_row rfl 25 (.tmp 4) rfl (w1.heap.size) rfl _ _ _ _ qr2.eq Tryd.underlying25 rfl (by rw [vals_size, Lr.out]; kernel_rfl) ?_)
    | (refine store_abs2 (by rfl) 25 (.tmp 4) (.tmp 10) (by rfl) (by rfl) (w1.heap.size) (vals .u64 r) (by rfl) (by rfl) 25 (vals .u64 Z6) (Has.new' _ rfl _ _) (by rw [vals_size, Lr.out]; kernel_rfl) (by first | rfl | (rw [vals_size, vals_size, Lr.out]; rfl)) vals_one ?_
       intro w2 qr2 hkeep hbg
       have hbe := ((Below.refl (w1).heap.size (w1)).alloc (Nat.le_refl _) (.cells (vals .u64 Z6) 25)).trans hbg
       have Nar : Keep (S < w1.heap.size) := ⟨qa1.lt⟩
       have Nor : Keep (S + 1 < w1.heap.size) := ⟨qo1.lt⟩
       have Mr : Keep (S ≤ w1.heap.size) := ⟨HSS.out _ hb1⟩
       have qa2 := qa1.keep hbe
       have qo2 := qo1.keep hbe
       have hb2 := hb1.trans (hbe.mono (HSS.out _ hb1))
       clear hkeep hbg hbe hb1 qa1 qo1)
    | (go_at_call 75
       refine (P1.out _ (HG.out _ hb0)).mono ?_
       rintro e w1 ⟨rfl, hq⟩
       have qa1 := qa0.keep hq
       have qo1 := qo0.keep hq
       have hb1 := hb0.trans (hq.mono (HSS.out _ hb0))
       clear hq hb0 qa0 qo0)
    | (refine wpList_load_row rfl 25 (.tmp 1) rfl (S) rfl _ _ _ _ qa0.eq Tryd.underlying25 rfl (by rw [vals_size, La.out]; kernel_rfl) ?_))
  refine bodyPost_ret (v := .tuple #[.agg (vals .u64 r), .bool true]) (results_row_tmp rfl _ _ (S + 1) _ _ _ _ _ rfl rfl qo4.eq Tryd.underlying25 rfl (by rw [vals_size, Lr.out]; kernel_rfl)) rfl ⟨rfl, hb4⟩

set_option maxRecDepth 100000 in
set_option maxHeartbeats 2000000 in
theorem sqrt_yes1 (a : List Int) (hla : a.length = 6) (hwa : Words a) (h : sq (num a) = true) (h2 : sgn (pw (num a) QQ) = 1) (w : World) (hG : Glob w) : Calls Tryd.prog 44 #[.agg (vals .u64 a)] w fun e w' => e = .returned (.tuple #[.agg (vals .u64 (root (num a))), .bool true]) ∧ Below w.heap.size w w' := by
  have P1 : Keep (∀ x : World, Glob x → _) := ⟨fun x (hG : Glob x) => someRoot_c a hla hwa x hG⟩
  rw [h] at P1
  have wr : Words (fe (pw (num a) QQ)) := fe_words _
  have h3 : sgn (num (fe (pw (num a) QQ))) = 1 := by rw [sgn_fe]; exact h2
  have er : root (num a) = fe (-num (fe (pw (num a) QQ))) := by
    rw [root, ev_sgn, h2]
    rw [fe_neg]; rfl
  obtain ⟨r, hr⟩ : ∃ o, fe (pw (num a) QQ) = o := ⟨_, rfl⟩
  have Lr : Keep (r.length = 6) := ⟨by rw [← hr]; exact fe_len _⟩
  rw [hr] at P1 wr h3 er
  obtain ⟨n, hn⟩ : ∃ o, fe (-num r) = o := ⟨_, rfl⟩
  have Ln : Keep (n.length = 6) := ⟨by rw [← hn]; exact fe_len _⟩
  rw [hn] at er
  rw [er]
  have P2 : Keep (∀ x : World, Glob x → _) := ⟨fun x (hG : Glob x) => wanted_1 r Lr.out wr h3 x hG⟩
  rw [hn] at P2
  have La : Keep (a.length = 6) := ⟨hla⟩
  have Lo : Keep (Z6.length = 6) := ⟨rfl⟩
  obtain ⟨S, hS⟩ : ∃ S, w.heap.size = S := ⟨_, rfl⟩
  have qa0 : Has ((w.alloc (.cells (vals .u64 a) 25)).alloc (.cells (vals .u64 Z6) 25)) (S) 25 (vals .u64 a) := by exact ((Has.new' _ hS.symm _ _).alloc _)
  have qo0 : Has ((w.alloc (.cells (vals .u64 a) 25)).alloc (.cells (vals .u64 Z6) 25)) (S + 1) 25 (vals .u64 Z6) := by exact (Has.new' _ (by simp only [World.size_alloc, hS]) _ _)
  have hb0 : Below S w ((w.alloc (.cells (vals .u64 a) 25)).alloc (.cells (vals .u64 Z6) 25)) := by rw [← hS]; exact (((Below.refl _ _).alloc (Nat.le_refl _) _).alloc (by simp) _)
  have hsz0 : ((w.alloc (.cells (vals .u64 a) 25)).alloc (.cells (vals .u64 Z6) 25)).heap.size = S + 2 := by simp only [World.size_alloc, hS]
  have HS0 : Keep (S ≤ w.heap.size) := ⟨by omega⟩
  have HSS : Keep (∀ x : World, Below S w x → S ≤ x.heap.size) := ⟨fun x hb => Nat.le_trans HS0.out hb.size⟩
  have HG : Keep (∀ x : World, Below S w x → Glob x) := ⟨fun x hb => hG.keep (by rw [hS]; exact hb)⟩
  rw [hS]
  clear h hla hwa hr h2 h3 er wr hn hG
  go_enter Tryd.func44, Tryd.ntmps44
  go_wp2_with (first
    | (refine store_abs2 (by rfl) 25 (.tmp 2) (.tmp 17) (by rfl) (by rfl) (S + 1) (vals .u64 n) (by rfl) (by rfl) 25 _ qo3 (by rw [vals_size, Ln.out]; kernel_rfl) (by first | rfl | (rw [vals_size, vals_size, Ln.out]; rfl) | rw [vals_size, vals_size, Ln.out, Lo.out]) vals_one ?_
       intro w4 qo4 hkeep hbg
       have qa4 := hkeep _ _ _ qa3 (by omega)
       have qr4 := hkeep _ _ _ qr3 (Nat.ne_of_gt Nor.out)
       have hb4 := hb3.trans (hbg.mono (by omega))
       clear hkeep hbg hb3 qa3 qo3 qr3)
    | (go_at_call 77
       refine (P2.out _ (HG.out _ hb2)).mono ?_
       rintro e w3 ⟨rfl, hq⟩
       have qa3 := qa2.keep hq
       have qo3 := qo2.keep hq
       have qr3 := qr2.keep hq
       have hb3 := hb2.trans (hq.mono (HSS.out _ hb2))
       clear hq hb2 qa2 qo2 qr2)
    | (refine wpList_load_row rfl 25 (.tmp 4) rfl (w1.heap.size) rfl _ _ _ _ qr2.eq Tryd.underlying25 rfl (by rw [vals_size, Lr.out]; kernel_rfl) ?_)
    | (refine store_abs2 (by rfl) 25 (.tmp 4) (.tmp 10) (by rfl) (by rfl) (w1.heap.size) (vals .u64 r) (by rfl) (by rfl) 25 (vals .u64 Z6) (Has.new' _ rfl _ _) (by rw [vals_size, Lr.out]; kernel_rfl) (by first | rfl | (rw [vals_size, vals_size, Lr.out]; rfl)) vals_one ?_
       intro w2 qr2 hkeep hbg
       have hbe := ((Below.refl (w1).heap.size (w1)).alloc (Nat.le_refl _) (.cells (vals .u64 Z6) 25)).trans hbg
       have Nar : Keep (S < w1.heap.size) := ⟨qa1.lt⟩
       have Nor : Keep (S + 1 < w1.heap.size) := ⟨qo1.lt⟩
       have Mr : Keep (S ≤ w1.heap.size) := ⟨HSS.out _ hb1⟩
       have qa2 := qa1.keep hbe
       have qo2 := qo1.keep hbe
       have hb2 := hb1.trans (hbe.mono (HSS.out _ hb1))
       clear hkeep hbg hbe hb1 qa1 qo1)
    | (go_at_call 75
       refine (P1.out _ (HG.out _ hb0)).mono ?_
       rintro e w1 ⟨rfl, hq⟩
       have qa1 := qa0.keep hq
       have qo1 := qo0.keep hq
       have hb1 := hb0.trans (hq.mono (HSS.out _ hb0))
       clear hq hb0 qa0 qo0)
    | (refine wpList_load_row rfl 25 (.tmp 1) rfl (S) rfl _ _ _ _ qa0.eq Tryd.underlying25 rfl (by rw [vals_size, La.out]; kernel_rfl) ?_))
  refine bodyPost_ret (v := .tuple #[.agg (vals .u64 n), .bool true]) (results_row_tmp rfl _ _ (S + 1) _ _ _ _ _ rfl rfl qo4.eq Tryd.underlying25 rfl (by rw [vals_size, Ln.out]; kernel_rfl)) rfl ⟨rfl, hb4⟩

set_option maxRecDepth 100000 in
set_option maxHeartbeats 2000000 in
theorem sqrt_c (a : List Int) (hla : a.length = 6) (hwa : Words a) (w : World) (hG : Glob w) : Calls Tryd.prog 44 #[.agg (vals .u64 a)] w fun e w' => e = .returned (.tuple #[.agg (vals .u64 (if sq (num a) = true then root (num a) else Z6)), .bool (sq (num a))]) ∧ Below w.heap.size w w' := by
  by_cases h : sq (num a) = true
  · rw [if_pos h, h]
    rcases sgn_or (pw (num a) QQ) with h2 | h2
    · exact sqrt_yes0 a hla hwa h h2 w hG
    · exact sqrt_yes1 a hla hwa h h2 w hG
  · have h' : sq (num a) = false := by simpa using h
    rw [if_neg h, h']
    exact sqrt_no a hla hwa h' w hG

set_option maxRecDepth 100000 in
set_option maxHeartbeats 2000000 in
theorem bigger_c (a : List Int) (hla : a.length = 6) (hwa : Words a) (w : World) (hG : Glob w) : Calls Tryd.prog 50 #[.agg (vals .u64 a)] w fun e w' => e = .returned (.bool (big (num a))) ∧ Below w.heap.size w w' := by
  have P1 : Keep (∀ x : World, Glob x → _) := ⟨fun x (hG : Glob x) => fpReduce_c a hla hwa x hG⟩
  have P2 : Keep (∀ x : World, Glob x → _) := ⟨fun x (hG : Glob x) => fpNeg_c a hla hwa x hG⟩
  obtain ⟨z, hz, hzb⟩ := cmp_big (num a)
  have wr : Words (fe (num a)) := fe_words _
  have wn : Words (fe (-num a)) := fe_words _
  obtain ⟨r, hr⟩ : ∃ o, fe (num a) = o := ⟨_, rfl⟩
  have Lr : Keep (r.length = 6) := ⟨by rw [← hr]; exact fe_len _⟩
  obtain ⟨n, hn⟩ : ∃ o, fe (-num a) = o := ⟨_, rfl⟩
  have Ln : Keep (n.length = 6) := ⟨by rw [← hn]; exact fe_len _⟩
  rw [hr, hn] at hz
  rw [hr] at P1 wr
  rw [hn] at P2 wn
  obtain ⟨s, hs⟩ : ∃ s, big (num a) = s := ⟨_, rfl⟩
  rw [hs] at hzb ⊢
  have P3 : Keep (∀ (x : World) (g g' : Nat), Has x g 25 (vals .u64 r) → Has x g' 25 (vals .u64 n) → Calls Tryd.prog 42 #[.slice (some ⟨g, 0, none⟩) 6 6, .slice (some ⟨g', 0, none⟩) 6 6] x fun e x' => e = .returned (.int .i64 z) ∧ Below x.heap.size x x') := ⟨fun x g g' h h' => by
    have h1 := cmp_c (some ⟨g, 0, none⟩) 6 6 r (some ⟨g', 0, none⟩) 6 6 n x.heap.size x (Rd.of_has h h.lt (by rw [List.drop_zero, take_all Lr.out]) (by rw [Lr.out]; omega)) wr (Rd.of_has h' h'.lt (by rw [List.drop_zero, take_all Ln.out]) (by rw [Ln.out]; omega)) wn (Nat.le_refl _) (by omega) (by omega)
    rw [hz] at h1
    exact h1⟩
  have HZ : Keep (decide (0 < z) = s) := ⟨hzb⟩
  have La : Keep (a.length = 6) := ⟨hla⟩
  have Lo : Keep (Z6.length = 6) := ⟨rfl⟩
  obtain ⟨S, hS⟩ : ∃ S, w.heap.size = S := ⟨_, rfl⟩
  have qa0 : Has (w.alloc (.cells (vals .u64 a) 25)) (S) 25 (vals .u64 a) := by exact (Has.new' _ hS.symm _ _)
  have hb0 : Below S w (w.alloc (.cells (vals .u64 a) 25)) := by rw [← hS]; exact ((Below.refl _ _).alloc (Nat.le_refl _) _)
  have hsz0 : (w.alloc (.cells (vals .u64 a) 25)).heap.size = S + 1 := by simp only [World.size_alloc, hS]
  have HS0 : Keep (S ≤ w.heap.size) := ⟨by omega⟩
  have HSS : Keep (∀ x : World, Below S w x → S ≤ x.heap.size) := ⟨fun x hb => Nat.le_trans HS0.out hb.size⟩
  have HG : Keep (∀ x : World, Below S w x → Glob x) := ⟨fun x hb => hG.keep (by rw [hS]; exact hb)⟩
  rw [hS]
  clear hz hzb hr hn hs wr wn hla hwa hG
  go_enter Tryd.func50, Tryd.ntmps50
  go_wp2
  go_wp2
  change Code.wp _ _ _ _ ((w.alloc (.cells (vals .u64 a) 25)))
  obtain ⟨w0, hw0⟩ : ∃ x, (w.alloc (.cells (vals .u64 a) 25)) = x := ⟨_, rfl⟩
  rw [hw0] at hb0 qa0 ⊢
  clear hw0
  have HS : Keep (∀ x x' : World, (fun x : World => Below S w x ∧ Has x (S) 25 (vals .u64 a)) x → Below x.heap.size x x' → (fun x : World => Below S w x ∧ Has x (S) 25 (vals .u64 a)) x') := ⟨fun x x' h hb => by
    obtain ⟨hB, ha_⟩ := h
    exact ⟨hB.trans (hb.mono (HSS.out _ hB)), ha_.keep hb⟩⟩
  have hdr : (fun x : World => Below S w x ∧ Has x (S) 25 (vals .u64 a)) w0.drew := HS.out _ _ ⟨hb0, qa0⟩ ⟨rfl, rfl, rfl, Nat.le_refl _, fun _ _ => rfl⟩
  have hbd : Below w0.heap.size w0 w0.drew := ⟨rfl, rfl, rfl, Nat.le_refl _, fun _ _ => rfl⟩
  refine wp_regionU (S := (fun x : World => Below S w x ∧ Has x (S) 25 (vals .u64 a))) (by kernel_rfl) ?_
  change wpAnyU _ _ _ _ _ 8 _ _ _
  have ra := qa0.keep hbd
  have hbr := hb0.trans (hbd.mono (HSS.out _ hb0))
  clear hbd hb0 qa0
  refine wpAnyU_take (i := 0) (v := _) HS.out (by rfl) (by kernel_rfl) (by kernel_rfl) (by kernel_rfl) (fun _ _ d _ _ h => by cases d <;> exact h) hdr (Steady.load_seg (by rfl) 25 (.tmp 1) (by rfl) (S) 0 6 (by rfl) 25 .u64 a a _ (fun w hw => hw.2) Tryd.underlying25 rfl (by kernel_rfl) (by rw [List.drop_zero, take_all La.out]) (by rw [La.out]; omega)) ?_
  simp only [List.getElem_toArray, List.getElem_cons_zero, List.getElem_cons_succ, Act.put, List.setIfInBounds_toArray, List.set_cons_zero, List.set_cons_succ]
  refine wpAnyU_take (i := 1) (v := .agg (vals .u64 r)) HS.out (by rfl) (by kernel_rfl) (by kernel_rfl) (by kernel_rfl) (fun _ _ d _ _ h => by cases d <;> exact h) hdr (Or.inl ⟨by rfl, fun w hw => (by unfold Oper.quietAt; go_simp; exact P1.out _ (HG.out _ (hw.1)))⟩) ?_
  simp only [List.getElem_toArray, List.getElem_cons_zero, List.getElem_cons_succ, Act.put, List.setIfInBounds_toArray, List.set_cons_zero, List.set_cons_succ]
  refine wpAnyU_take (i := 2) (v := _) HS.out (by rfl) (by kernel_rfl) (by kernel_rfl) (by kernel_rfl) (fun _ _ d _ _ h => by cases d <;> exact h) hdr (Steady.load_seg (by rfl) 25 (.tmp 1) (by rfl) (S) 0 6 (by rfl) 25 .u64 a a _ (fun w hw => hw.2) Tryd.underlying25 rfl (by kernel_rfl) (by rw [List.drop_zero, take_all La.out]) (by rw [La.out]; omega)) ?_
  simp only [List.getElem_toArray, List.getElem_cons_zero, List.getElem_cons_succ, Act.put, List.setIfInBounds_toArray, List.set_cons_zero, List.set_cons_succ]
  refine wpAnyU_take (i := 3) (v := .agg (vals .u64 n)) HS.out (by rfl) (by kernel_rfl) (by kernel_rfl) (by kernel_rfl) (fun _ _ d _ _ h => by cases d <;> exact h) hdr (Or.inl ⟨by rfl, fun w hw => (by unfold Oper.quietAt; go_simp; exact P2.out _ (HG.out _ (hw.1)))⟩) ?_
  simp only [List.getElem_toArray, List.getElem_cons_zero, List.getElem_cons_succ, Act.put, List.setIfInBounds_toArray, List.set_cons_zero, List.set_cons_succ]
  refine wpAnyU_two (i := 4) (k := 5) (by rfl) (by rfl) (by kernel_rfl) ?_ ?_
  · intro w1 hq
    have ok1 := HS.out _ _ hdr hq
    have ra' := ra.keep hq
    have hbr' := hbr.trans (hq.mono (HSS.out _ hbr))
    clear hbr hq ra
    have Nar : Keep (S < w1.heap.size) := ⟨ra'.lt⟩
    have Mr : Keep (S ≤ w1.heap.size) := ⟨HSS.out _ hbr'⟩
    have hal : Below w1.heap.size w1 (w1.alloc (.cells (vals .u64 Z6) 25)) := (Below.refl _ _).alloc (Nat.le_refl _) _
    have ok2 := HS.out _ _ ok1 hal
    have ra := ra'.keep hal
    have rr : Has (w1.alloc (.cells (vals .u64 Z6) 25)) w1.heap.size 25 (vals .u64 Z6) := Has.new _ _ _
    have hbr := hbr'.trans (hal.mono (HSS.out _ hbr'))
    clear hal hbr' ok1 ra'
    refine wpList_own (by rfl) ?_
    go_wp2
    try refine ⟨ok2, ?_⟩
    obtain ⟨gr, hgr⟩ : ∃ g, w1.heap.size = g := ⟨_, rfl⟩
    obtain ⟨w2, hw2⟩ : ∃ x, w1.alloc (.cells (vals .u64 Z6) 25) = x := ⟨_, rfl⟩
    change wpAnyU _ _ _ _ _ _ _ _ (w1.alloc (.cells (vals .u64 Z6) 25))
    rw [hw2] at ok2 hbr ra rr ⊢
    rw [hgr] at rr Mr Nar ⊢
    clear hgr hw2
    refine wpAnyU_run (i := 5) (by rfl) (by kernel_rfl) (fun w3 hq => ?_)
    have ok3 := HS.out _ _ ok2 hq
    have ra' := ra.keep hq
    have rr' := rr.keep hq
    have hbr' := hbr.trans (hq.mono (HSS.out _ hbr))
    clear hbr hq ra rr
    have Nan : Keep (S < w3.heap.size) := ⟨ra'.lt⟩
    have Nrn : Keep (gr < w3.heap.size) := ⟨rr'.lt⟩
    have Mn : Keep (S ≤ w3.heap.size) := ⟨HSS.out _ hbr'⟩
    have hal : Below w3.heap.size w3 (w3.alloc (.cells (vals .u64 Z6) 25)) := (Below.refl _ _).alloc (Nat.le_refl _) _
    have ok4 := HS.out _ _ ok3 hal
    have ra := ra'.keep hal
    have rr := rr'.keep hal
    have rn : Has (w3.alloc (.cells (vals .u64 Z6) 25)) w3.heap.size 25 (vals .u64 Z6) := Has.new _ _ _
    have hbr := hbr'.trans (hal.mono (HSS.out _ hbr'))
    clear hal hbr' ok3 ra' rr'
    refine wpList_own (by rfl) ?_
    go_wp2
    try refine ⟨ok4, ?_⟩
    obtain ⟨gn, hgn⟩ : ∃ g, w3.heap.size = g := ⟨_, rfl⟩
    obtain ⟨w4, hw4⟩ : ∃ x, w3.alloc (.cells (vals .u64 Z6) 25) = x := ⟨_, rfl⟩
    change wpAnyU _ _ _ _ _ _ _ _ (w3.alloc (.cells (vals .u64 Z6) 25))
    rw [hw4] at ok4 hbr ra rr rn ⊢
    rw [hgn] at rn Mn Nan Nrn ⊢
    clear hgn hw4
    refine wpAnyU_run (i := 6) (by rfl) (by kernel_rfl) (fun w5 hq => ?_)
    have ok5 := HS.out _ _ ok4 hq
    have ra' := ra.keep hq
    have rr' := rr.keep hq
    have rn' := rn.keep hq
    have hbr' := hbr.trans (hq.mono (HSS.out _ hbr))
    clear hbr hq ra rr rn
    refine wpList_own (by rfl) ?_
    go_wp2_with (refine store_abs2 (by rfl) 25 (.tmp 3) (.tmp 6) (by rfl) (by rfl) (gr) (vals .u64 r) (by rfl) (by rfl) 25 _ rr' (by rw [vals_size, Lr.out]; kernel_rfl) (by first | rfl | (rw [vals_size, vals_size, Lr.out]; rfl)) vals_one ?_
                 intro w6 rr hkeep hbg
                 have ra := hkeep _ _ _ ra' (Nat.ne_of_lt Nar.out)
                 have rn := hkeep _ _ _ rn' (Nat.ne_of_gt Nrn.out)
                 have hbr := hbr'.trans (hbg.mono Mr.out)
                 clear hkeep hbg hbr' ra' rr' rn')
    try refine ⟨⟨hbr, ra⟩, ?_⟩
    have ok6 : (fun x : World => Below S w x ∧ Has x (S) 25 (vals .u64 a)) w6 := ⟨hbr, ra⟩
    clear ok5
    refine wpAnyU_run (i := 7) (by rfl) (by kernel_rfl) (fun w7 hq => ?_)
    have ok7 := HS.out _ _ ok6 hq
    have ra' := ra.keep hq
    have rr' := rr.keep hq
    have rn' := rn.keep hq
    have hbr' := hbr.trans (hq.mono (HSS.out _ hbr))
    clear hbr hq ra rr rn
    refine wpList_own (by rfl) ?_
    go_wp2_with (refine store_abs2 (by rfl) 25 (.tmp 4) (.tmp 8) (by rfl) (by rfl) (gn) (vals .u64 n) (by rfl) (by rfl) 25 _ rn' (by rw [vals_size, Ln.out]; kernel_rfl) (by first | rfl | (rw [vals_size, vals_size, Ln.out]; rfl)) vals_one ?_
                 intro w8 rn hkeep hbg
                 have ra := hkeep _ _ _ ra' (Nat.ne_of_lt Nan.out)
                 have rr := hkeep _ _ _ rr' (Nat.ne_of_lt Nrn.out)
                 have hbr := hbr'.trans (hbg.mono Mn.out)
                 clear hkeep hbg hbr' ra' rr' rn')
    try refine ⟨⟨hbr, ra⟩, ?_⟩
    have ok8 : (fun x : World => Below S w x ∧ Has x (S) 25 (vals .u64 a)) w8 := ⟨hbr, ra⟩
    clear ok7
    refine wpAnyU_end (by kernel_rfl) (fun w9 hq => ?_)
    have qa9 := ra.keep hq
    have qr9 := rr.keep hq
    have qn9 := rn.keep hq
    have hb9 := hbr.trans (hq.mono (HSS.out _ hbr))
    clear hq hbr ok8 HS  ra rr rn
    go_wp2
    refine wp_fam_all (by kernel_rfl) (by kernel_rfl) (fun I hI' fw hf hback => ?_)
    have HGf : Keep (∀ j, Glob (fw j)) := ⟨fun j => HG.out _ (hb9.trans ((hf j).mono (HSS.out _ hb9)))⟩
    repeat (first
      | go_big_quiet_step (first | fail | (go_at_call 42; with_reducible exact calls_fam hf hback (P3.out _ _ _ (qr9.keep (hf _)) (qn9.keep (hf _))))))
    refine wpQuiet_nil ?_
    intro w10 hq
    have qa10 := qa9.keep hq
    have qr10 := qr9.keep hq
    have qn10 := qn9.keep hq
    have hb10 := hb9.trans (hq.mono (HSS.out _ hb9))
    clear HGf hf hback hq hb9 qa9 qr9 qn9 
    go_wp2
    go_ret
    exact ⟨by rw [← HZ.out]; rfl, hb10⟩
  · intro w1 hq
    have ok1 := HS.out _ _ hdr hq
    have ra' := ra.keep hq
    have hbr' := hbr.trans (hq.mono (HSS.out _ hbr))
    clear hbr hq ra
    have Nan : Keep (S < w1.heap.size) := ⟨ra'.lt⟩
    have Mn : Keep (S ≤ w1.heap.size) := ⟨HSS.out _ hbr'⟩
    have hal : Below w1.heap.size w1 (w1.alloc (.cells (vals .u64 Z6) 25)) := (Below.refl _ _).alloc (Nat.le_refl _) _
    have ok2 := HS.out _ _ ok1 hal
    have ra := ra'.keep hal
    have rn : Has (w1.alloc (.cells (vals .u64 Z6) 25)) w1.heap.size 25 (vals .u64 Z6) := Has.new _ _ _
    have hbr := hbr'.trans (hal.mono (HSS.out _ hbr'))
    clear hal hbr' ok1 ra'
    refine wpList_own (by rfl) ?_
    go_wp2
    try refine ⟨ok2, ?_⟩
    obtain ⟨gn, hgn⟩ : ∃ g, w1.heap.size = g := ⟨_, rfl⟩
    obtain ⟨w2, hw2⟩ : ∃ x, w1.alloc (.cells (vals .u64 Z6) 25) = x := ⟨_, rfl⟩
    change wpAnyU _ _ _ _ _ _ _ _ (w1.alloc (.cells (vals .u64 Z6) 25))
    rw [hw2] at ok2 hbr ra rn ⊢
    rw [hgn] at rn Mn Nan ⊢
    clear hgn hw2
    refine wpAnyU_run (i := 4) (by rfl) (by kernel_rfl) (fun w3 hq => ?_)
    have ok3 := HS.out _ _ ok2 hq
    have ra' := ra.keep hq
    have rn' := rn.keep hq
    have hbr' := hbr.trans (hq.mono (HSS.out _ hbr))
    clear hbr hq ra rn
    have Nar : Keep (S < w3.heap.size) := ⟨ra'.lt⟩
    have Nnr : Keep (gn < w3.heap.size) := ⟨rn'.lt⟩
    have Mr : Keep (S ≤ w3.heap.size) := ⟨HSS.out _ hbr'⟩
    have hal : Below w3.heap.size w3 (w3.alloc (.cells (vals .u64 Z6) 25)) := (Below.refl _ _).alloc (Nat.le_refl _) _
    have ok4 := HS.out _ _ ok3 hal
    have ra := ra'.keep hal
    have rn := rn'.keep hal
    have rr : Has (w3.alloc (.cells (vals .u64 Z6) 25)) w3.heap.size 25 (vals .u64 Z6) := Has.new _ _ _
    have hbr := hbr'.trans (hal.mono (HSS.out _ hbr'))
    clear hal hbr' ok3 ra' rn'
    refine wpList_own (by rfl) ?_
    go_wp2
    try refine ⟨ok4, ?_⟩
    obtain ⟨gr, hgr⟩ : ∃ g, w3.heap.size = g := ⟨_, rfl⟩
    obtain ⟨w4, hw4⟩ : ∃ x, w3.alloc (.cells (vals .u64 Z6) 25) = x := ⟨_, rfl⟩
    change wpAnyU _ _ _ _ _ _ _ _ (w3.alloc (.cells (vals .u64 Z6) 25))
    rw [hw4] at ok4 hbr ra rn rr ⊢
    rw [hgr] at rr Mr Nar Nnr ⊢
    clear hgr hw4
    refine wpAnyU_run (i := 6) (by rfl) (by kernel_rfl) (fun w5 hq => ?_)
    have ok5 := HS.out _ _ ok4 hq
    have ra' := ra.keep hq
    have rn' := rn.keep hq
    have rr' := rr.keep hq
    have hbr' := hbr.trans (hq.mono (HSS.out _ hbr))
    clear hbr hq ra rn rr
    refine wpList_own (by rfl) ?_
    go_wp2_with (refine store_abs2 (by rfl) 25 (.tmp 3) (.tmp 6) (by rfl) (by rfl) (gr) (vals .u64 r) (by rfl) (by rfl) 25 _ rr' (by rw [vals_size, Lr.out]; kernel_rfl) (by first | rfl | (rw [vals_size, vals_size, Lr.out]; rfl)) vals_one ?_
                 intro w6 rr hkeep hbg
                 have ra := hkeep _ _ _ ra' (Nat.ne_of_lt Nar.out)
                 have rn := hkeep _ _ _ rn' (Nat.ne_of_lt Nnr.out)
                 have hbr := hbr'.trans (hbg.mono Mr.out)
                 clear hkeep hbg hbr' ra' rn' rr')
    try refine ⟨⟨hbr, ra⟩, ?_⟩
    have ok6 : (fun x : World => Below S w x ∧ Has x (S) 25 (vals .u64 a)) w6 := ⟨hbr, ra⟩
    clear ok5
    refine wpAnyU_run (i := 7) (by rfl) (by kernel_rfl) (fun w7 hq => ?_)
    have ok7 := HS.out _ _ ok6 hq
    have ra' := ra.keep hq
    have rn' := rn.keep hq
    have rr' := rr.keep hq
    have hbr' := hbr.trans (hq.mono (HSS.out _ hbr))
    clear hbr hq ra rn rr
    refine wpList_own (by rfl) ?_
    go_wp2_with (refine store_abs2 (by rfl) 25 (.tmp 4) (.tmp 8) (by rfl) (by rfl) (gn) (vals .u64 n) (by rfl) (by rfl) 25 _ rn' (by rw [vals_size, Ln.out]; kernel_rfl) (by first | rfl | (rw [vals_size, vals_size, Ln.out]; rfl)) vals_one ?_
                 intro w8 rn hkeep hbg
                 have ra := hkeep _ _ _ ra' (Nat.ne_of_lt Nan.out)
                 have rr := hkeep _ _ _ rr' (Nat.ne_of_gt Nnr.out)
                 have hbr := hbr'.trans (hbg.mono Mn.out)
                 clear hkeep hbg hbr' ra' rn' rr')
    try refine ⟨⟨hbr, ra⟩, ?_⟩
    have ok8 : (fun x : World => Below S w x ∧ Has x (S) 25 (vals .u64 a)) w8 := ⟨hbr, ra⟩
    clear ok7
    refine wpAnyU_end (by kernel_rfl) (fun w9 hq => ?_)
    have qa9 := ra.keep hq
    have qn9 := rn.keep hq
    have qr9 := rr.keep hq
    have hb9 := hbr.trans (hq.mono (HSS.out _ hbr))
    clear hq hbr ok8 HS  ra rn rr
    go_wp2
    refine wp_fam_all (by kernel_rfl) (by kernel_rfl) (fun I hI' fw hf hback => ?_)
    have HGf : Keep (∀ j, Glob (fw j)) := ⟨fun j => HG.out _ (hb9.trans ((hf j).mono (HSS.out _ hb9)))⟩
    repeat (first
      | go_big_quiet_step (first | fail | (go_at_call 42; with_reducible exact calls_fam hf hback (P3.out _ _ _ (qr9.keep (hf _)) (qn9.keep (hf _))))))
    refine wpQuiet_nil ?_
    intro w10 hq
    have qa10 := qa9.keep hq
    have qn10 := qn9.keep hq
    have qr10 := qr9.keep hq
    have hb10 := hb9.trans (hq.mono (HSS.out _ hb9))
    clear HGf hf hback hq hb9 qa9 qn9 qr9 
    go_wp2
    go_ret
    exact ⟨by rw [← HZ.out]; rfl, hb10⟩

end Go.Proofs.YtpkfknmpegieaaaDoor.Fpr
