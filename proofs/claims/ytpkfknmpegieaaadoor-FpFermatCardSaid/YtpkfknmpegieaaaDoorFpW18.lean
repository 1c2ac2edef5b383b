/-
  Own text. The contract of Pow of package fp.
-/
import Derived.Test.YtpkfknmpegieaaaDoorFpW17
namespace Go.Proofs.YtpkfknmpegieaaaDoor.Fp
set_option linter.unusedVariables false
set_option linter.unusedSimpArgs false
open Go Go.RowKit Go.Proofs.YtpkfknmpegieaaaDoor.Reg Go.Proofs.YtpkfknmpegieaaaDoor.Base Go.Proofs.YtpkfknmpegieaaaDoor.Limb Go.Proofs.YtpkfknmpegieaaaDoor.Bits

theorem num_nil : num [] = 0 := rfl
set_option maxRecDepth 100000 in
set_option maxHeartbeats 2000000 in
theorem pow_zero_w (a : List Int) (hla : a.length = 6) (hwa : Words a) (A : Option Addr) (n c : Nat) (l : List Int) (B : Nat) (w : World) (hG : Glob w) (hr : Rd w B A n .u64 l) (hw : Words l) (hB : B ≤ w.heap.size) (hn : n ≤ 10000) (hz : num l = 0) : Calls Tryd.prog 33 #[.agg (vals .u64 a), .slice A n c] w fun e w' => e = .returned (.agg (vals .u64 (fe (pw (num a) (num l))))) ∧ Below w.heap.size w w' := by
  have LN : Keep _ := ⟨hr.len⟩
  have LW : Keep _ := ⟨hw⟩
  obtain ⟨o, ho⟩ : ∃ o, fe (pw (num a) (num l)) = o := ⟨_, rfl⟩
  have OL : Keep (o.length = 6) := ⟨by rw [← ho]; exact fe_len _⟩
  have LA : Keep _ := ⟨hla⟩
  have WA : Keep _ := ⟨hwa⟩
  obtain ⟨S, hS⟩ : ∃ S, w.heap.size = S := ⟨_, rfl⟩
  have hA0 : Has ((w.alloc (.cells (vals .u64 a) 25)).alloc (.cells (vals .u64 Z6) 25)) S 25 (vals .u64 a) := by exact (Has.new' _ hS.symm _ _).alloc _
  have hR0 : Has ((w.alloc (.cells (vals .u64 a) 25)).alloc (.cells (vals .u64 Z6) 25)) (S + 1) 25 (vals .u64 Z6) := by exact Has.new' _ (by rw [World.size_alloc, hS]) _ _
  have hb0 : Below S w ((w.alloc (.cells (vals .u64 a) 25)).alloc (.cells (vals .u64 Z6) 25)) := by rw [← hS]; exact ((Below.refl _ _).alloc (Nat.le_refl _) _).alloc (by simp) _
  have HS0 : Keep (S ≤ w.heap.size) := ⟨by omega⟩
  have FR : Keep (Free S) := ⟨hG.free (by omega)⟩
  have HSS : Keep (∀ w', Below S w w' → S ≤ w'.heap.size) := ⟨fun w' hb => Nat.le_trans HS0.out hb.size⟩
  have HGG : Keep (∀ w', Below S w w' → Glob w') := ⟨fun w' hb => hG.keep (by rw [hS]; exact hb)⟩
  have HRD : Keep (∀ w', Below S w w' → Rd w' B A n .u64 l) := ⟨fun w' hb => hr.keep hb (by omega)⟩
  have HBS : Keep (B ≤ S) := ⟨by omega⟩
  have hgd := gd6
  have HO : Keep _ := ⟨ho⟩
  rw [ho, hS]
  obtain ⟨x, hx⟩ : ∃ x, fe (num a) = x := ⟨_, rfl⟩
  have LX : Keep (x.length = 6 ∧ Words x) := ⟨by rw [← hx]; exact fe_len _, by rw [← hx]; exact fe_words _⟩
  have HX : Keep _ := ⟨hx⟩
  clear hla hwa hG hw hr hx ho hB
  have HC : Keep (cmpL l [] = 0) := ⟨by rw [cmpL, hz, num_nil]; rfl⟩
  have FIN : Keep ([1, 0, 0, 0, 0, 0] = o) := ⟨by rw [← HO.out, hz, pw_zero, fe_one]⟩
  clear hz
  have CM : Keep (∀ w', Below S w w' → Calls Tryd.prog 42 #[.slice A n c, .slice none 0 0] w' fun e w'' => e = .returned (.int .i64 0) ∧ Below w'.heap.size w' w'') := ⟨fun w' hb' => by
    have := cmp_c A n c l none 0 0 [] B w' (HRD.out _ hb') LW.out ⟨rfl, fun h => absurd h (by omega)⟩ (words_of _ (by intro i hi; simp at hi)) (Nat.le_trans HBS.out (HSS.out _ hb')) hn (by omega)
    rwa [HC.out] at this⟩
  go_enter Tryd.func33, Tryd.ntmps33
  go_wp2_with (first
    | (refine wpList_buildTo (by rfl) 25 #[(0, .const (.int .u64 1))] (by rfl) (some 10) (by rfl) (vals .u64 [1, 0, 0, 0, 0, 0]) (by kernel_rfl) ?_)
    | (refine wpList_store_rowTo rfl 25 (.tmp 4) (.tmp 10) rfl rfl (S + 1) (vals .u64 [1, 0, 0, 0, 0, 0]) rfl rfl _ _ hR2.eq (by first | (rw [vals_size, OL.out]; kernel_rfl) | kernel_rfl) (by first | (rw [vals_size, vals_size, OL.out]; rfl) | rfl) vals_one ?_)
    | (go_at_call 42
       refine (CM.out _ hb1).mono ?_
       rintro e w2 ⟨rfl, hq⟩
       have hA2 := hA1.keep hq
       have hR2 := hR1.keep hq
       have hb2 := hb1.trans (hq.mono (HSS.out _ hb1))
       clear hq hA1 hR1 hb1)
    | (go_at_call 52
       refine (fpLower_c S 25 a LA.out WA.out FR.out _ (HGG.out _ hb0) hA0).mono ?_
       rintro e w1 ⟨rfl, hA1, ho⟩
       rw [HX.out] at hA1
       have hR1 := ho.has hR0 (by omega)
       have hb1 := hb0.trans (ho.below (B := S) (by omega) (HSS.out _ hb0))
       clear ho hA0 hR0 hb0))
  refine bodyPost_ret (v := .agg (vals .u64 [1, 0, 0, 0, 0, 0])) (results_cell_row rfl _ _ (S + 1) _ _ _ _ rfl (hR2.row _).eq Tryd.underlying25 rfl (by first | (rw [vals_size, OL.out]; kernel_rfl) | kernel_rfl)) rfl ⟨by first | rfl | rw [FIN.out], below_row hb2 (by omega) _⟩
set_option maxRecDepth 100000 in
set_option maxHeartbeats 2000000 in
theorem pow_nought_w (a : List Int) (hla : a.length = 6) (hwa : Words a) (A : Option Addr) (n c : Nat) (l : List Int) (B : Nat) (w : World) (hG : Glob w) (hr : Rd w B A n .u64 l) (hw : Words l) (hB : B ≤ w.heap.size) (hn : n ≤ 10000) (hz : num l ≠ 0) (hx0 : fe (num a) = Z6) : Calls Tryd.prog 33 #[.agg (vals .u64 a), .slice A n c] w fun e w' => e = .returned (.agg (vals .u64 (fe (pw (num a) (num l))))) ∧ Below w.heap.size w w' := by
  have LN : Keep _ := ⟨hr.len⟩
  have LW : Keep _ := ⟨hw⟩
  obtain ⟨o, ho⟩ : ∃ o, fe (pw (num a) (num l)) = o := ⟨_, rfl⟩
  have OL : Keep (o.length = 6) := ⟨by rw [← ho]; exact fe_len _⟩
  have LA : Keep _ := ⟨hla⟩
  have WA : Keep _ := ⟨hwa⟩
  obtain ⟨S, hS⟩ : ∃ S, w.heap.size = S := ⟨_, rfl⟩
  have hA0 : Has ((w.alloc (.cells (vals .u64 a) 25)).alloc (.cells (vals .u64 Z6) 25)) S 25 (vals .u64 a) := by exact (Has.new' _ hS.symm _ _).alloc _
  have hR0 : Has ((w.alloc (.cells (vals .u64 a) 25)).alloc (.cells (vals .u64 Z6) 25)) (S + 1) 25 (vals .u64 Z6) := by exact Has.new' _ (by rw [World.size_alloc, hS]) _ _
  have hb0 : Below S w ((w.alloc (.cells (vals .u64 a) 25)).alloc (.cells (vals .u64 Z6) 25)) := by rw [← hS]; exact ((Below.refl _ _).alloc (Nat.le_refl _) _).alloc (by simp) _
  have HS0 : Keep (S ≤ w.heap.size) := ⟨by omega⟩
  have FR : Keep (Free S) := ⟨hG.free (by omega)⟩
  have HSS : Keep (∀ w', Below S w w' → S ≤ w'.heap.size) := ⟨fun w' hb => Nat.le_trans HS0.out hb.size⟩
  have HGG : Keep (∀ w', Below S w w' → Glob w') := ⟨fun w' hb => hG.keep (by rw [hS]; exact hb)⟩
  have HRD : Keep (∀ w', Below S w w' → Rd w' B A n .u64 l) := ⟨fun w' hb => hr.keep hb (by omega)⟩
  have HBS : Keep (B ≤ S) := ⟨by omega⟩
  have hgd := gd6
  have HO : Keep _ := ⟨ho⟩
  rw [ho, hS]
  obtain ⟨x, hx⟩ : ∃ x, fe (num a) = x := ⟨_, rfl⟩
  have LX : Keep (x.length = 6 ∧ Words x) := ⟨by rw [← hx]; exact fe_len _, by rw [← hx]; exact fe_words _⟩
  have HX : Keep _ := ⟨hx⟩
  clear hla hwa hG hw hr hx ho hB
  have HC : Keep (cmpL l [] = 1) := ⟨by
    have := (num_bounds LW.out).1
    rw [cmpL, num_nil, if_neg (by omega), if_neg hz]⟩
  have FIN : Keep (Z6 = o) := ⟨by
    have h1 : num a % PP = 0 := by
      have : num (fe (num a)) = 0 := by rw [hx0]; decide +kernel
      rwa [num_fe] at this
    have := (num_bounds LW.out).1
    rw [← HO.out, ← fe_zero]
    exact (fe_congr (by rw [pw_nought h1 (by omega)]; rfl)).symm⟩
  obtain rfl : x = Z6 := HX.out.symm.trans hx0
  have E1 := eq6 Z6 rfl
  clear hz hx0
  have CM : Keep (∀ w', Below S w w' → Calls Tryd.prog 42 #[.slice A n c, .slice none 0 0] w' fun e w'' => e = .returned (.int .i64 1) ∧ Below w'.heap.size w' w'') := ⟨fun w' hb' => by
    have := cmp_c A n c l none 0 0 [] B w' (HRD.out _ hb') LW.out ⟨rfl, fun h => absurd h (by omega)⟩ (words_of _ (by intro i hi; simp at hi)) (Nat.le_trans HBS.out (HSS.out _ hb')) hn (by omega)
    rwa [HC.out] at this⟩
  go_enter Tryd.func33, Tryd.ntmps33
  go_wp2_with (first
    | (refine wpList_load_row rfl 25 (.tmp 2) rfl S rfl _ _ _ _ hA2.eq Tryd.underlying25 rfl (by first | (rw [vals_size, LX.out.1]; kernel_rfl) | kernel_rfl) ?_)
    | (refine wpList_buildTo (by rfl) 25 #[] (by rfl) (some 12) (by rfl) (vals .u64 Z6) (by kernel_rfl) ?_)
    | (refine wpList_store_rowTo rfl 25 (.tmp 4) (.tmp 14) rfl rfl (S + 1) (vals .u64 Z6) rfl rfl _ _ hR2.eq (by first | (rw [vals_size, OL.out]; kernel_rfl) | kernel_rfl) (by first | (rw [vals_size, vals_size, OL.out]; rfl) | rfl) vals_one ?_)
    | (go_at_call 42
       refine (CM.out _ hb1).mono ?_
       rintro e w2 ⟨rfl, hq⟩
       have hA2 := hA1.keep hq
       have hR2 := hR1.keep hq
       have hb2 := hb1.trans (hq.mono (HSS.out _ hb1))
       clear hq hA1 hR1 hb1)
    | (go_at_call 52
       refine (fpLower_c S 25 a LA.out WA.out FR.out _ (HGG.out _ hb0) hA0).mono ?_
       rintro e w1 ⟨rfl, hA1, ho⟩
       rw [HX.out] at hA1
       have hR1 := ho.has hR0 (by omega)
       have hb1 := hb0.trans (ho.below (B := S) (by omega) (HSS.out _ hb0))
       clear ho hA0 hR0 hb0))
  refine bodyPost_ret (v := .agg (vals .u64 Z6)) (results_cell_row rfl _ _ (S + 1) _ _ _ _ rfl (hR2.row _).eq Tryd.underlying25 rfl (by first | (rw [vals_size, OL.out]; kernel_rfl) | kernel_rfl)) rfl ⟨by first | rfl | rw [FIN.out], below_row hb2 (by omega) _⟩
set_option maxRecDepth 100000 in
set_option maxHeartbeats 2000000 in
theorem pow_short_w (a : List Int) (hla : a.length = 6) (hwa : Words a) (A : Option Addr) (n c : Nat) (l : List Int) (B : Nat) (w : World) (hG : Glob w) (hr : Rd w B A n .u64 l) (hw : Words l) (hB : B ≤ w.heap.size) (hn : n ≤ 10000) (hz : num l ≠ 0) (hx0 : fe (num a) ≠ Z6) (hn6 : n ≤ 6) : Calls Tryd.prog 33 #[.agg (vals .u64 a), .slice A n c] w fun e w' => e = .returned (.agg (vals .u64 (fe (pw (num a) (num l))))) ∧ Below w.heap.size w w' := by
  have LN : Keep _ := ⟨hr.len⟩
  have LW : Keep _ := ⟨hw⟩
  obtain ⟨o, ho⟩ : ∃ o, fe (pw (num a) (num l)) = o := ⟨_, rfl⟩
  have OL : Keep (o.length = 6) := ⟨by rw [← ho]; exact fe_len _⟩
  have LA : Keep _ := ⟨hla⟩
  have WA : Keep _ := ⟨hwa⟩
  obtain ⟨S, hS⟩ : ∃ S, w.heap.size = S := ⟨_, rfl⟩
  have hA0 : Has ((w.alloc (.cells (vals .u64 a) 25)).alloc (.cells (vals .u64 Z6) 25)) S 25 (vals .u64 a) := by exact (Has.new' _ hS.symm _ _).alloc _
  have hR0 : Has ((w.alloc (.cells (vals .u64 a) 25)).alloc (.cells (vals .u64 Z6) 25)) (S + 1) 25 (vals .u64 Z6) := by exact Has.new' _ (by rw [World.size_alloc, hS]) _ _
  have hb0 : Below S w ((w.alloc (.cells (vals .u64 a) 25)).alloc (.cells (vals .u64 Z6) 25)) := by rw [← hS]; exact ((Below.refl _ _).alloc (Nat.le_refl _) _).alloc (by simp) _
  have HS0 : Keep (S ≤ w.heap.size) := ⟨by omega⟩
  have FR : Keep (Free S) := ⟨hG.free (by omega)⟩
  have HSS : Keep (∀ w', Below S w w' → S ≤ w'.heap.size) := ⟨fun w' hb => Nat.le_trans HS0.out hb.size⟩
  have HGG : Keep (∀ w', Below S w w' → Glob w') := ⟨fun w' hb => hG.keep (by rw [hS]; exact hb)⟩
  have HRD : Keep (∀ w', Below S w w' → Rd w' B A n .u64 l) := ⟨fun w' hb => hr.keep hb (by omega)⟩
  have HBS : Keep (B ≤ S) := ⟨by omega⟩
  have hgd := gd6
  have HO : Keep _ := ⟨ho⟩
  rw [ho, hS]
  obtain ⟨x, hx⟩ : ∃ x, fe (num a) = x := ⟨_, rfl⟩
  have LX : Keep (x.length = 6 ∧ Words x) := ⟨by rw [← hx]; exact fe_len _, by rw [← hx]; exact fe_words _⟩
  have HX : Keep _ := ⟨hx⟩
  clear hla hwa hG hw hr hx ho hB
  have HC : Keep (cmpL l [] = 1) := ⟨by
    have := (num_bounds LW.out).1
    rw [cmpL, num_nil, if_neg (by omega), if_neg hz]⟩
  have E1 := eq6_ne x Z6 LX.out.1 rfl (by rw [← HX.out]; exact hx0)
  have SP : Keep (∀ w', Below S w w' → Calls Tryd.prog 66 #[.agg (vals .u64 x), .slice A n c] w' fun e w'' => e = .returned (.agg (vals .u64 o)) ∧ Below w'.heap.size w' w'') := ⟨fun w' hb' => by
    have := shortPow_c x LX.out.1 LX.out.2 A n c l B w' (HGG.out _ hb') (HRD.out _ hb') LW.out (Nat.le_trans HBS.out (HSS.out _ hb')) (by omega)
    rwa [← HX.out, fe_pw, HO.out, HX.out] at this⟩
  clear hz hx0
  have CM : Keep (∀ w', Below S w w' → Calls Tryd.prog 42 #[.slice A n c, .slice none 0 0] w' fun e w'' => e = .returned (.int .i64 1) ∧ Below w'.heap.size w' w'') := ⟨fun w' hb' => by
    have := cmp_c A n c l none 0 0 [] B w' (HRD.out _ hb') LW.out ⟨rfl, fun h => absurd h (by omega)⟩ (words_of _ (by intro i hi; simp at hi)) (Nat.le_trans HBS.out (HSS.out _ hb')) hn (by omega)
    rwa [HC.out] at this⟩
  go_enter Tryd.func33, Tryd.ntmps33
  go_wp2_with (first
    | (refine wpList_load_row rfl 25 (.tmp 2) rfl S rfl _ _ _ _ hA2.eq Tryd.underlying25 rfl (by first | (rw [vals_size, LX.out.1]; kernel_rfl) | kernel_rfl) ?_)
    | (refine wpList_buildTo (by rfl) 25 #[] (by rfl) (some 12) (by rfl) (vals .u64 Z6) (by kernel_rfl) ?_)
    | (refine wpList_store_rowTo rfl 25 (.tmp 4) (.tmp 28) rfl rfl (S + 1) (vals .u64 o) rfl rfl _ _ hR3.eq (by first | (rw [vals_size, OL.out]; kernel_rfl) | kernel_rfl) (by first | (rw [vals_size, vals_size, OL.out]; rfl) | rfl) vals_one ?_)
    | (go_at_call 66
       refine (SP.out _ hb2).mono ?_
       rintro e w3 ⟨rfl, hq⟩
       have hR3 := hR2.keep hq
       have hb3 := hb2.trans (hq.mono (HSS.out _ hb2))
       clear hq hA2 hR2 hb2)
    | (go_at_call 42
       refine (CM.out _ hb1).mono ?_
       rintro e w2 ⟨rfl, hq⟩
       have hA2 := hA1.keep hq
       have hR2 := hR1.keep hq
       have hb2 := hb1.trans (hq.mono (HSS.out _ hb1))
       clear hq hA1 hR1 hb1)
    | (go_at_call 52
       refine (fpLower_c S 25 a LA.out WA.out FR.out _ (HGG.out _ hb0) hA0).mono ?_
       rintro e w1 ⟨rfl, hA1, ho⟩
       rw [HX.out] at hA1
       have hR1 := ho.has hR0 (by omega)
       have hb1 := hb0.trans (ho.below (B := S) (by omega) (HSS.out _ hb0))
       clear ho hA0 hR0 hb0))
  refine bodyPost_ret (v := .agg (vals .u64 o)) (results_cell_row rfl _ _ (S + 1) _ _ _ _ rfl (hR3.row _).eq Tryd.underlying25 rfl (by first | (rw [vals_size, OL.out]; kernel_rfl) | kernel_rfl)) rfl ⟨by first | rfl | rw [FIN.out], below_row hb3 (by omega) _⟩
end Go.Proofs.YtpkfknmpegieaaaDoor.Fp
