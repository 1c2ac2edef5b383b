/-
  Own text. The contracts of layer 5's reference: Sqrt, Bigger.
-/
import Derived.Test.YtpkfknmpegieaaaDoorFprRef
namespace Go.Proofs.YtpkfknmpegieaaaDoor.Fpr
set_option linter.unusedVariables false
set_option linter.unusedSimpArgs false
open Go Go.RowKit Go.Proofs.YtpkfknmpegieaaaDoor.Reg Go.Proofs.YtpkfknmpegieaaaDoor.Base Go.Proofs.YtpkfknmpegieaaaDoor.Limb Go.Proofs.YtpkfknmpegieaaaDoor.Bits Go.Proofs.YtpkfknmpegieaaaDoor.Fp

set_option maxRecDepth 100000 in
set_option maxHeartbeats 2000000 in
theorem refSqrt_no (a : List Int) (hla : a.length = 6) (hwa : Words a) (h : sq (num a) = false) (w : World) : Calls Tryd.prog 45 #[.agg (vals .u64 a)] w fun e w' => e = .returned (.tuple #[.agg (vals .u64 (Z6)), .bool false]) ∧ Below w.heap.size w w' := by
  have P1 : Keep (∀ x : World, _) := ⟨fun x => refRoot_c a hla hwa x⟩
  rw [h] at P1
  obtain ⟨r, hr⟩ : ∃ o, fe (pw (num a) QQ) = o := ⟨_, rfl⟩
  have Lr : Keep (r.length = 6) := ⟨by rw [← hr]; exact fe_len _⟩
  rw [hr] at P1
  have La : Keep (a.length = 6) := ⟨hla⟩
  have Lo : Keep (Z6.length = 6) := ⟨rfl⟩
  obtain ⟨S, hS⟩ : ∃ S, w.heap.size = S := ⟨_, rfl⟩
  have qa0 : Has ((w.alloc (.cells (vals .u64 a) 25)).alloc (.cells (vals .u64 Z6) 25)) (S) 25 (vals .u64 a) := by exact ((Has.new' _ hS.symm _ _).alloc _)
  have qo0 : Has ((w.alloc (.cells (vals .u64 a) 25)).alloc (.cells (vals .u64 Z6) 25)) (S + 1) 25 (vals .u64 Z6) := by exact (Has.new' _ (by simp only [World.size_alloc, hS]) _ _)
  have hb0 : Below S w ((w.alloc (.cells (vals .u64 a) 25)).alloc (.cells (vals .u64 Z6) 25)) := by rw [← hS]; exact (((Below.refl _ _).alloc (Nat.le_refl _) _).alloc (by simp) _)
  have hsz0 : ((w.alloc (.cells (vals .u64 a) 25)).alloc (.cells (vals .u64 Z6) 25)).heap.size = S + 2 := by simp only [World.size_alloc, hS]
  have HS0 : Keep (S ≤ w.heap.size) := ⟨by omega⟩
  have HSS : Keep (∀ x : World, Below S w x → S ≤ x.heap.size) := ⟨fun x hb => Nat.le_trans HS0.out hb.size⟩
  rw [hS]
  clear h hla hwa hr
  go_enter Tryd.func45, Tryd.ntmps45
  go_wp2_with (first
    | (refine store_abs2 (by rfl) 25 (.tmp 2) (.tmp 13) (by rfl) (by rfl) (S + 1) (vals .u64 Z6) (by rfl) (by rfl) 25 _ qo2 (by rw [vals_size, Lo.out]; kernel_rfl) (by first | rfl | (rw [vals_size, vals_size, Lo.out]; rfl) | rw [vals_size, vals_size, Lo.out, Lo.out]) vals_one ?_
       intro w3 qo3 hkeep hbg
       have qa3 := hkeep _ _ _ qa2 (by omega)
       have qr3 := hkeep _ _ _ qr2 (Nat.ne_of_gt Nor.out)
       have hb3 := hb2.trans (hbg.mono (by omega))
       clear hkeep hbg hb2 qa2 qo2 qr2)
    | (refine wpList_buildTo (by rfl) 25 #[] (by rfl) (some 13) (by rfl) (vals .u64 Z6) (by kernel_rfl) ?_)
    | (refine store_abs2 (by rfl) 25 (.tmp 4) (.tmp 9) (by rfl) (by rfl) (w1.heap.size) (vals .u64 r) (by rfl) (by rfl) 25 (vals .u64 Z6) (Has.new' _ rfl _ _) (by rw [vals_size, Lr.out]; kernel_rfl) (by first | rfl | (rw [vals_size, vals_size, Lr.out]; rfl)) vals_one ?_
       intro w2 qr2 hkeep hbg
       have hbe := ((Below.refl (w1).heap.size (w1)).alloc (Nat.le_refl _) (.cells (vals .u64 Z6) 25)).trans hbg
       have Nar : Keep (S < w1.heap.size) := ⟨qa1.lt⟩
       have Nor : Keep (S + 1 < w1.heap.size) := ⟨qo1.lt⟩
       have Mr : Keep (S ≤ w1.heap.size) := ⟨HSS.out _ hb1⟩
       have qa2 := qa1.keep hbe
       have qo2 := qo1.keep hbe
       have hb2 := hb1.trans (hbe.mono (HSS.out _ hb1))
       clear hkeep hbg hbe hb1 qa1 qo1)
    | (go_at_call 78
       refine (P1.out _).mono ?_
       rintro e w1 ⟨rfl, hq⟩
       have qa1 := qa0.keep hq
       have qo1 := qo0.keep hq
       have hb1 := hb0.trans (hq.mono (HSS.out _ hb0))
       clear hq hb0 qa0 qo0)
    | (refine wpList_load_row rfl 25 (.tmp 1) rfl (S) rfl _ _ _ _ qa0.eq Tryd.underlying25 rfl (by rw [vals_size, La.out]; kernel_rfl) ?_))
  refine bodyPost_ret (v := .tuple #[.agg (vals .u64 Z6), .bool false]) (results_row_tmp rfl _ _ (S + 1) _ _ _ _ _ rfl rfl qo3.eq Tryd.underlying25 rfl (by rw [vals_size, Lo.out]; kernel_rfl)) rfl ⟨rfl, hb3⟩

set_option maxRecDepth 100000 in
set_option maxHeartbeats 2000000 in
theorem refSqrt_yes0 (a : List Int) (hla : a.length = 6) (hwa : Words a) (h : sq (num a) = true) (h2 : sgn (pw (num a) QQ) = 0) (w : World) : Calls Tryd.prog 45 #[.agg (vals .u64 a)] w fun e w' => e = .returned (.tuple #[.agg (vals .u64 (root (num a))), .bool true]) ∧ Below w.heap.size w w' := by
  have P1 : Keep (∀ x : World, _) := ⟨fun x => refRoot_c a hla hwa x⟩
  rw [h] at P1
  have wr : Words (fe (pw (num a) QQ)) := fe_words _
  have h3 : sgn (num (fe (pw (num a) QQ))) = 0 := by rw [sgn_fe]; exact h2
  have er : root (num a) = fe (pw (num a) QQ) := by
    rw [root, ev_sgn, h2]
    rfl
  obtain ⟨r, hr⟩ : ∃ o, fe (pw (num a) QQ) = o := ⟨_, rfl⟩
  have Lr : Keep (r.length = 6) := ⟨by rw [← hr]; exact fe_len _⟩
  rw [hr] at P1 wr h3 er
  rw [er]
  have P2 : Keep (∀ x : World, _) := ⟨fun x => refSign_c r Lr.out wr x⟩
  rw [h3] at P2
  have La : Keep (a.length = 6) := ⟨hla⟩
  have Lo : Keep (Z6.length = 6) := ⟨rfl⟩
  obtain ⟨S, hS⟩ : ∃ S, w.heap.size = S := ⟨_, rfl⟩
  have qa0 : Has ((w.alloc (.cells (vals .u64 a) 25)).alloc (.cells (vals .u64 Z6) 25)) (S) 25 (vals .u64 a) := by exact ((Has.new' _ hS.symm _ _).alloc _)
  have qo0 : Has ((w.alloc (.cells (vals .u64 a) 25)).alloc (.cells (vals .u64 Z6) 25)) (S + 1) 25 (vals .u64 Z6) := by exact (Has.new' _ (by simp only [World.size_alloc, hS]) _ _)
  have hb0 : Below S w ((w.alloc (.cells (vals .u64 a) 25)).alloc (.cells (vals .u64 Z6) 25)) := by rw [← hS]; exact (((Below.refl _ _).alloc (Nat.le_refl _) _).alloc (by simp) _)
  have hsz0 : ((w.alloc (.cells (vals .u64 a) 25)).alloc (.cells (vals .u64 Z6) 25)).heap.size = S + 2 := by simp only [World.size_alloc, hS]
  have HS0 : Keep (S ≤ w.heap.size) := ⟨by omega⟩
  have HSS : Keep (∀ x : World, Below S w x → S ≤ x.heap.size) := ⟨fun x hb => Nat.le_trans HS0.out hb.size⟩
  rw [hS]
  clear h hla hwa hr h2 h3 er wr
  go_enter Tryd.func45, Tryd.ntmps45
  go_wp2_with (first
    | (refine store_abs2 (by rfl) 25 (.tmp 2) (.tmp 19) (by rfl) (by rfl) (S + 1) (vals .u64 r) (by rfl) (by rfl) 25 _ qo3 (by rw [vals_size, Lr.out]; kernel_rfl) (by first | rfl | (rw [vals_size, vals_size, Lr.out]; rfl) | rw [vals_size, vals_size, Lr.out, Lo.out]) vals_one ?_
       intro w4 qo4 hkeep hbg
       have qa4 := hkeep _ _ _ qa3 (by omega)
       have qr4 := hkeep _ _ _ qr3 (Nat.ne_of_gt Nor.out)
       have hb4 := hb3.trans (hbg.mono (by omega))
       clear hkeep hbg hb3 qa3 qo3 qr3)
    | (refine wpList_load_row rfl 25 (.tmp 4) rfl (w1.heap.size) rfl _ _ _ _ qr3.eq Tryd.underlying25 rfl (by rw [vals_size, Lr.out]; kernel_rfl) ?_)
    | (go_at_call 49
       refine (P2.out _).mono ?_
       rintro e w3 ⟨rfl, hq⟩
       have qa3 := qa2.keep hq
       have qo3 := qo2.keep hq
       have qr3 := qr2.keep hq
       have hb3 := hb2.trans (hq.mono (HSS.out _ hb2))
       clear hq hb2 qa2 qo2 qr2)
    | (refine wpList_load_row rfl 25 (.tmp 4) rfl (w1.heap.size) rfl _ _ _ _ qr2.eq Tryd.underlying25 rfl (by rw [vals_size, Lr.out]; kernel_rfl) ?_)
    | (refine store_abs2 (by rfl) 25 (.tmp 4) (.tmp 9) (by rfl) (by rfl) (w1.heap.size) (vals .u64 r) (by rfl) (by rfl) 25 (vals .u64 Z6) (Has.new' _ rfl _ _) (by rw [vals_size, Lr.out]; kernel_rfl) (by first | rfl | (rw [vals_size, vals_size, Lr.out]; rfl)) vals_one ?_
       intro w2 qr2 hkeep hbg
       have hbe := ((Below.refl (w1).heap.size (w1)).alloc (Nat.le_refl _) (.cells (vals .u64 Z6) 25)).trans hbg
       have Nar : Keep (S < w1.heap.size) := ⟨qa1.lt⟩
       have Nor : Keep (S + 1 < w1.heap.size) := ⟨qo1.lt⟩
       have Mr : Keep (S ≤ w1.heap.size) := ⟨HSS.out _ hb1⟩
       have qa2 := qa1.keep hbe
       have qo2 := qo1.keep hbe
       have hb2 := hb1.trans (hbe.mono (HSS.out _ hb1))
       clear hkeep hbg hbe hb1 qa1 qo1)
    | (go_at_call 78
       refine (P1.out _).mono ?_
       rintro e w1 ⟨rfl, hq⟩
       have qa1 := qa0.keep hq
       have qo1 := qo0.keep hq
       have hb1 := hb0.trans (hq.mono (HSS.out _ hb0))
       clear hq hb0 qa0 qo0)
    | (refine wpList_load_row rfl 25 (.tmp 1) rfl (S) rfl _ _ _ _ qa0.eq Tryd.underlying25 rfl (by rw [vals_size, La.out]; kernel_rfl) ?_))
  refine bodyPost_ret (v := .tuple #[.agg (vals .u64 r), .bool true]) (results_row_tmp rfl _ _ (S + 1) _ _ _ _ _ rfl rfl qo4.eq Tryd.underlying25 rfl (by rw [vals_size, Lr.out]; kernel_rfl)) rfl ⟨rfl, hb4⟩

set_option maxRecDepth 100000 in
set_option maxHeartbeats 2000000 in
theorem refSqrt_yes1 (a : List Int) (hla : a.length = 6) (hwa : Words a) (h : sq (num a) = true) (h2 : sgn (pw (num a) QQ) = 1) (w : World) : Calls Tryd.prog 45 #[.agg (vals .u64 a)] w fun e w' => e = .returned (.tuple #[.agg (vals .u64 (root (num a))), .bool true]) ∧ Below w.heap.size w w' := by
  have P1 : Keep (∀ x : World, _) := ⟨fun x => refRoot_c a hla hwa x⟩
  rw [h] at P1
  have wr : Words (fe (pw (num a) QQ)) := fe_words _
  have h3 : sgn (num (fe (pw (num a) QQ))) = 1 := by rw [sgn_fe]; exact h2
  have er : root (num a) = fe (-num (fe (pw (num a) QQ))) := by
    rw [root, ev_sgn, h2]
    rw [fe_neg]; rfl
  obtain ⟨r, hr⟩ : ∃ o, fe (pw (num a) QQ) = o := ⟨_, rfl⟩
  have Lr : Keep (r.length = 6) := ⟨by rw [← hr]; exact fe_len _⟩
  rw [hr] at P1 wr h3 er
  obtain ⟨n, hn⟩ : ∃ o, fe (-num r) = o := ⟨_, rfl⟩
  have Ln : Keep (n.length = 6) := ⟨by rw [← hn]; exact fe_len _⟩
  rw [hn] at er
  rw [er]
  have P2 : Keep (∀ x : World, _) := ⟨fun x => refSign_c r Lr.out wr x⟩
  rw [h3] at P2
  have P3 : Keep (∀ x : World, _) := ⟨fun x => refNeg_c r Lr.out wr x⟩
  rw [hn] at P3
  have La : Keep (a.length = 6) := ⟨hla⟩
  have Lo : Keep (Z6.length = 6) := ⟨rfl⟩
  obtain ⟨S, hS⟩ : ∃ S, w.heap.size = S := ⟨_, rfl⟩
  have qa0 : Has ((w.alloc (.cells (vals .u64 a) 25)).alloc (.cells (vals .u64 Z6) 25)) (S) 25 (vals .u64 a) := by exact ((Has.new' _ hS.symm _ _).alloc _)
  have qo0 : Has ((w.alloc (.cells (vals .u64 a) 25)).alloc (.cells (vals .u64 Z6) 25)) (S + 1) 25 (vals .u64 Z6) := by exact (Has.new' _ (by simp only [World.size_alloc, hS]) _ _)
  have hb0 : Below S w ((w.alloc (.cells (vals .u64 a) 25)).alloc (.cells (vals .u64 Z6) 25)) := by rw [← hS]; exact (((Below.refl _ _).alloc (Nat.le_refl _) _).alloc (by simp) _)
  have hsz0 : ((w.alloc (.cells (vals .u64 a) 25)).alloc (.cells (vals .u64 Z6) 25)).heap.size = S + 2 := by simp only [World.size_alloc, hS]
  have HS0 : Keep (S ≤ w.heap.size) := ⟨by omega⟩
  have HSS : Keep (∀ x : World, Below S w x → S ≤ x.heap.size) := ⟨fun x hb => Nat.le_trans HS0.out hb.size⟩
  rw [hS]
  clear h hla hwa hr h2 h3 er wr hn
  go_enter Tryd.func45, Tryd.ntmps45
  go_wp2_with (first
    | (refine store_abs2 (by rfl) 25 (.tmp 2) (.tmp 19) (by rfl) (by rfl) (S + 1) (vals .u64 n) (by rfl) (by rfl) 25 _ qo5 (by rw [vals_size, Ln.out]; kernel_rfl) (by first | rfl | (rw [vals_size, vals_size, Ln.out]; rfl) | rw [vals_size, vals_size, Ln.out, Lo.out]) vals_one ?_
       intro w6 qo6 hkeep hbg
       have qa6 := hkeep _ _ _ qa5 (by omega)
       have qr6 := hkeep _ _ _ qr5 (Nat.ne_of_gt Nor.out)
       have hb6 := hb5.trans (hbg.mono (by omega))
       clear hkeep hbg hb5 qa5 qo5 qr5)
    | (refine wpList_load_row rfl 25 (.tmp 4) rfl (w1.heap.size) rfl _ _ _ _ qr5.eq Tryd.underlying25 rfl (by rw [vals_size, Ln.out]; kernel_rfl) ?_)
    | (refine store_abs2 (by rfl) 25 (.tmp 4) (.tmp 18) (by rfl) (by rfl) (w1.heap.size) (vals .u64 n) (by rfl) (by rfl) 25 _ qr4 (by rw [vals_size, Ln.out]; kernel_rfl) (by first | rfl | (rw [vals_size, vals_size, Ln.out]; rfl) | rw [vals_size, vals_size, Ln.out, Lr.out]) vals_one ?_
       intro w5 qr5 hkeep hbg
       have qa5 := hkeep _ _ _ qa4 (Nat.ne_of_lt Nar.out)
       have qo5 := hkeep _ _ _ qo4 (Nat.ne_of_lt Nor.out)
       have hb5 := hb4.trans (hbg.mono Mr.out)
       clear hkeep hbg hb4 qa4 qo4 qr4)
    | (go_at_call 28
       refine (P3.out _).mono ?_
       rintro e w4 ⟨rfl, hq⟩
       have qa4 := qa3.keep hq
       have qo4 := qo3.keep hq
       have qr4 := qr3.keep hq
       have hb4 := hb3.trans (hq.mono (HSS.out _ hb3))
       clear hq hb3 qa3 qo3 qr3)
    | (refine wpList_load_row rfl 25 (.tmp 4) rfl (w1.heap.size) rfl _ _ _ _ qr3.eq Tryd.underlying25 rfl (by rw [vals_size, Lr.out]; kernel_rfl) ?_)
    | (go_at_call 49
       refine (P2.out _).mono ?_
       rintro e w3 ⟨rfl, hq⟩
       have qa3 := qa2.keep hq
       have qo3 := qo2.keep hq
       have qr3 := qr2.keep hq
       have hb3 := hb2.trans (hq.mono (HSS.out _ hb2))
       clear hq hb2 qa2 qo2 qr2)
    | (refine wpList_load_row rfl 25 (.tmp 4) rfl (w1.heap.size) rfl _ _ _ _ qr2.eq Tryd.underlying25 rfl (by rw [vals_size, Lr.out]; kernel_rfl) ?_)
    | (refine store_abs2 (by rfl) 25 (.tmp 4) (.tmp 9) (by rfl) (by rfl) (w1.heap.size) (vals .u64 r) (by rfl) (by rfl) 25 (vals .u64 Z6) (Has.new' _ rfl _ _) (by rw [vals_size, Lr.out]; kernel_rfl) (by first | rfl | (rw [vals_size, vals_size, Lr.out]; rfl)) vals_one ?_
       intro w2 qr2 hkeep hbg
       have hbe := ((Below.refl (w1).heap.size (w1)).alloc (Nat.le_refl _) (.cells (vals .u64 Z6) 25)).trans hbg
       have Nar : Keep (S < w1.heap.size) := ⟨qa1.lt⟩
       have Nor : Keep (S + 1 < w1.heap.size) := ⟨qo1.lt⟩
       have Mr : Keep (S ≤ w1.heap.size) := ⟨HSS.out _ hb1⟩
       have qa2 := qa1.keep hbe
       have qo2 := qo1.keep hbe
       have hb2 := hb1.trans (hbe.mono (HSS.out _ hb1))
       clear hkeep hbg hbe hb1 qa1 qo1)
    | (go_at_call 78
       refine (P1.out _).mono ?_
       rintro e w1 ⟨rfl, hq⟩
       have qa1 := qa0.keep hq
       have qo1 := qo0.keep hq
       have hb1 := hb0.trans (hq.mono (HSS.out _ hb0))
       clear hq hb0 qa0 qo0)
    | (refine wpList_load_row rfl 25 (.tmp 1) rfl (S) rfl _ _ _ _ qa0.eq Tryd.underlying25 rfl (by rw [vals_size, La.out]; kernel_rfl) ?_))
  refine bodyPost_ret (v := .tuple #[.agg (vals .u64 n), .bool true]) (results_row_tmp rfl _ _ (S + 1) _ _ _ _ _ rfl rfl qo6.eq Tryd.underlying25 rfl (by rw [vals_size, Ln.out]; kernel_rfl)) rfl ⟨rfl, hb6⟩

set_option maxRecDepth 100000 in
set_option maxHeartbeats 2000000 in
theorem refSqrt_c (a : List Int) (hla : a.length = 6) (hwa : Words a) (w : World) : Calls Tryd.prog 45 #[.agg (vals .u64 a)] w fun e w' => e = .returned (.tuple #[.agg (vals .u64 (if sq (num a) = true then root (num a) else Z6)), .bool (sq (num a))]) ∧ Below w.heap.size w w' := by
  by_cases h : sq (num a) = true
  · rw [if_pos h, h]
    rcases sgn_or (pw (num a) QQ) with h2 | h2
    · exact refSqrt_yes0 a hla hwa h h2 w
    · exact refSqrt_yes1 a hla hwa h h2 w
  · have h' : sq (num a) = false := by simpa using h
    rw [if_neg h, h']
    exact refSqrt_no a hla hwa h' w

set_option maxRecDepth 100000 in
set_option maxHeartbeats 2000000 in
theorem refBigger_c (a : List Int) (hla : a.length = 6) (hwa : Words a) (w : World) : Calls Tryd.prog 51 #[.agg (vals .u64 a)] w fun e w' => e = .returned (.bool (big (num a))) ∧ Below w.heap.size w w' := by
  have P1 : Keep (∀ x : World, _) := ⟨fun x => refReduce_c a hla hwa x⟩
  have P2 : Keep (∀ x : World, _) := ⟨fun x => refNeg_c a hla hwa x⟩
  obtain ⟨z, hz, hzb⟩ := cmp_big (num a)
  have wr : Words (fe (num a)) := fe_words _
  have wn : Words (fe (-num a)) := fe_words _
  obtain ⟨r, hr⟩ : ∃ o, fe (num a) = o := ⟨_, rfl⟩
  have Lr : Keep (r.length = 6) := ⟨by rw [← hr]; exact fe_len _⟩
  obtain ⟨n, hn⟩ : ∃ o, fe (-num a) = o := ⟨_, rfl⟩
  have Ln : Keep (n.length = 6) := ⟨by rw [← hn]; exact fe_len _⟩
  rw [hr, hn] at hz
  rw [hr] at P1 wr
  rw [hn] at P2 wn
  obtain ⟨s, hs⟩ : ∃ s, big (num a) = s := ⟨_, rfl⟩
  rw [hs] at hzb ⊢
  have P3 : Keep (∀ (x : World) (g g' : Nat), Has x g 25 (vals .u64 r) → Has x g' 25 (vals .u64 n) → Calls Tryd.prog 69 #[.slice (some ⟨g, 0, none⟩) 6 6, .slice (some ⟨g', 0, none⟩) 6 6] x fun e x' => e = .returned (.int .i64 z) ∧ Below x.heap.size x x') := ⟨fun x g g' h h' => by
    have h1 := refCmp_c (some ⟨g, 0, none⟩) 6 6 r (some ⟨g', 0, none⟩) 6 6 n x.heap.size x (Rd.of_has h h.lt (by rw [List.drop_zero, take_all Lr.out]) (by rw [Lr.out]; omega)) wr (Rd.of_has h' h'.lt (by rw [List.drop_zero, take_all Ln.out]) (by rw [Ln.out]; omega)) wn (by omega) (by omega)
    rw [hz] at h1
    exact h1.mono fun e x' ⟨he, hx⟩ => ⟨he, hx ▸ Below.refl _ _⟩⟩
  have HZ : Keep (decide (0 < z) = s) := ⟨hzb⟩
  have La : Keep (a.length = 6) := ⟨hla⟩
  have Lo : Keep (Z6.length = 6) := ⟨rfl⟩
  obtain ⟨S, hS⟩ : ∃ S, w.heap.size = S := ⟨_, rfl⟩
  have qa0 : Has (w.alloc (.cells (vals .u64 a) 25)) (S) 25 (vals .u64 a) := by exact (Has.new' _ hS.symm _ _)
  have hb0 : Below S w (w.alloc (.cells (vals .u64 a) 25)) := by rw [← hS]; exact ((Below.refl _ _).alloc (Nat.le_refl _) _)
  have hsz0 : (w.alloc (.cells (vals .u64 a) 25)).heap.size = S + 1 := by simp only [World.size_alloc, hS]
  have HS0 : Keep (S ≤ w.heap.size) := ⟨by omega⟩
  have HSS : Keep (∀ x : World, Below S w x → S ≤ x.heap.size) := ⟨fun x hb => Nat.le_trans HS0.out hb.size⟩
  rw [hS]
  clear hz hzb hr hn hs wr wn hla hwa
  go_enter Tryd.func51, Tryd.ntmps51
  go_wp2_with (first
    | (refine store_abs2 (by rfl) 25 (.tmp 4) (.tmp 8) (by rfl) (by rfl) (w3.heap.size) (vals .u64 n) (by rfl) (by rfl) 25 (vals .u64 Z6) (Has.new' _ rfl _ _) (by rw [vals_size, Ln.out]; kernel_rfl) (by first | rfl | (rw [vals_size, vals_size, Ln.out]; rfl)) vals_one ?_
       intro w4 qn4 hkeep hbg
       have hbe := ((Below.refl (w3).heap.size (w3)).alloc (Nat.le_refl _) (.cells (vals .u64 Z6) 25)).trans hbg
       have Nan : Keep (S < w3.heap.size) := ⟨qa3.lt⟩
       have Nrn : Keep (w1.heap.size < w3.heap.size) := ⟨qr3.lt⟩
       have Mn : Keep (S ≤ w3.heap.size) := ⟨HSS.out _ hb3⟩
       have qa4 := qa3.keep hbe
       have qr4 := qr3.keep hbe
       have hb4 := hb3.trans (hbe.mono (HSS.out _ hb3))
       clear hkeep hbg hbe hb3 qa3 qr3)
    | (go_at_call 28
       refine (P2.out _).mono ?_
       rintro e w3 ⟨rfl, hq⟩
       have qa3 := qa2.keep hq
       have qr3 := qr2.keep hq
       have hb3 := hb2.trans (hq.mono (HSS.out _ hb2))
       clear hq hb2 qa2 qr2)
    | (refine wpList_load_row rfl 25 (.tmp 1) rfl (S) rfl _ _ _ _ qa2.eq Tryd.underlying25 rfl (by rw [vals_size, La.out]; kernel_rfl) ?_)
    | (refine store_abs2 (by rfl) 25 (.tmp 3) (.tmp 6) (by rfl) (by rfl) (w1.heap.size) (vals .u64 r) (by rfl) (by rfl) 25 (vals .u64 Z6) (Has.new' _ rfl _ _) (by rw [vals_size, Lr.out]; kernel_rfl) (by first | rfl | (rw [vals_size, vals_size, Lr.out]; rfl)) vals_one ?_
       intro w2 qr2 hkeep hbg
       have hbe := ((Below.refl (w1).heap.size (w1)).alloc (Nat.le_refl _) (.cells (vals .u64 Z6) 25)).trans hbg
       have Nar : Keep (S < w1.heap.size) := ⟨qa1.lt⟩
       have Mr : Keep (S ≤ w1.heap.size) := ⟨HSS.out _ hb1⟩
       have qa2 := qa1.keep hbe
       have hb2 := hb1.trans (hbe.mono (HSS.out _ hb1))
       clear hkeep hbg hbe hb1 qa1)
    | (go_at_call 22
       refine (P1.out _).mono ?_
       rintro e w1 ⟨rfl, hq⟩
       have qa1 := qa0.keep hq
       have hb1 := hb0.trans (hq.mono (HSS.out _ hb0))
       clear hq hb0 qa0)
    | (refine wpList_load_row rfl 25 (.tmp 1) rfl (S) rfl _ _ _ _ qa0.eq Tryd.underlying25 rfl (by rw [vals_size, La.out]; kernel_rfl) ?_))
  refine wp_fam_all (by kernel_rfl) (by kernel_rfl) (fun I hI' fw hf hback => ?_)
  repeat (first
    | go_big_quiet_step (first | fail | (go_at_call 69; with_reducible exact calls_fam hf hback (P3.out _ _ _ (qr4.keep (hf _)) (qn4.keep (hf _))))))
  refine wpQuiet_nil ?_
  intro w5 hq
  have qa5 := qa4.keep hq
  have qr5 := qr4.keep hq
  have qn5 := qn4.keep hq
  have hb5 := hb4.trans (hq.mono (HSS.out _ hb4))
  clear hf hback hq hb4 qa4 qr4 qn4 
  go_wp2
  go_ret
  exact ⟨by rw [← HZ.out]; rfl, hb5⟩

end Go.Proofs.YtpkfknmpegieaaaDoor.Fpr
