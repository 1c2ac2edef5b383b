/-
  Own text. The contract of Pow of package fp, whatever the exponent.
-/
import Derived.Test.YtpkfknmpegieaaaDoorFpW18
import Derived.Test.YtpkfknmpegieaaaDoorLimbOwn
namespace Go.Proofs.YtpkfknmpegieaaaDoor.Fp
set_option linter.unusedVariables false
set_option linter.unusedSimpArgs false
open Go Go.RowKit Go.Proofs.YtpkfknmpegieaaaDoor.Reg Go.Proofs.YtpkfknmpegieaaaDoor.Base Go.Proofs.YtpkfknmpegieaaaDoor.Limb Go.Proofs.YtpkfknmpegieaaaDoor.Bits

theorem fermat_red {x M E : Int} (hM : 0 < M) (h1 : pw x M % PP = 1) (hE : 0 ≤ E) : fe (pw x (E % M)) = fe (pw x E) := by
  have hq : 0 ≤ E / M := Int.ediv_nonneg hE (Int.le_of_lt hM)
  have hr : 0 ≤ E % M := Int.emod_nonneg _ (by omega)
  have e0 : E = M * (E / M) + E % M := (Int.mul_ediv_add_emod E M).symm
  have e1 : pw x (M * (E / M)) = (pw x M) ^ (E / M).toNat := by
    rw [pw, pw, ← Int.pow_mul, Int.toNat_mul (Int.le_of_lt hM) hq]
  have e2 : pw x (M * (E / M)) % PP = 1 := by
    rw [e1, pw_congr (y := 1) (by rw [h1]; decide) _, Int.one_pow]
    decide
  have e3 : pw x E = pw x (M * (E / M)) * pw x (E % M) := by
    rw [← pw_add (Int.mul_nonneg (Int.le_of_lt hM) hq) hr, ← e0]
  refine fe_congr ?_
  rw [e3, Int.mul_emod, e2, Int.one_mul, Int.emod_emod]
theorem num_less_one : num (fe (-1)) = PP - 1 := by decide +kernel
theorem num_oneL : num [1, 0, 0, 0, 0, 0] = 1 := by decide +kernel
set_option maxRecDepth 100000 in
set_option maxHeartbeats 2000000 in
theorem pow_long_w (a : List Int) (hla : a.length = 6) (hwa : Words a) (A : Option Addr) (n c : Nat) (l : List Int) (B : Nat) (w : World) (hG : Glob w) (hr : Rd w B A n .u64 l) (hw : Words l) (hB : B ≤ w.heap.size) (hn : n ≤ 10000) (hz : num l ≠ 0) (hx0 : fe (num a) ≠ Z6) (hn6 : 6 < n) : Calls Tryd.prog 33 #[.agg (vals .u64 a), .slice A n c] w fun e w' => e = .returned (.agg (vals .u64 (fe (pw (num a) (num l))))) ∧ Below w.heap.size w w' := by
  have LN : Keep _ := ⟨hr.len⟩
  have LW : Keep _ := ⟨hw⟩
  obtain ⟨o, ho⟩ : ∃ o, fe (pw (num a) (num l)) = o := ⟨_, rfl⟩
  have OL : Keep (o.length = 6) := ⟨by rw [← ho]; exact fe_len _⟩
  have LA : Keep _ := ⟨hla⟩
  have WA : Keep _ := ⟨hwa⟩
  obtain ⟨S, hS⟩ : ∃ S, w.heap.size = S := ⟨_, rfl⟩
  have hA0 : Has ((w.alloc (.cells (vals .u64 a) 25)).alloc (.cells (vals .u64 Z6) 25)) S 25 (vals .u64 a) := by exact (Has.new' _ hS.symm _ _).alloc _
  have hR0 : Has ((w.alloc (.cells (vals .u64 a) 25)).alloc (.cells (vals .u64 Z6) 25)) (S + 1) 25 (vals .u64 Z6) := by exact Has.new' _ (by rw [World.size_alloc, hS]) _ _
  have hb0 : Below S w ((w.alloc (.cells (vals .u64 a) 25)).alloc (.cells (vals .u64 Z6) 25)) := by rw [← hS]; exact ((Below.refl _ _).alloc (Nat.le_refl _) _).alloc (by simp) _
  have HS0 : Keep (S ≤ w.heap.size) := ⟨by omega⟩
  have FR : Keep (Free S) := ⟨hG.free (by omega)⟩
  have HSS : Keep (∀ w', Below S w w' → S ≤ w'.heap.size) := ⟨fun w' hb => Nat.le_trans HS0.out hb.size⟩
  have HGG : Keep (∀ w', Below S w w' → Glob w') := ⟨fun w' hb => hG.keep (by rw [hS]; exact hb)⟩
  have HRD : Keep (∀ w', Below S w w' → Rd w' B A n .u64 l) := ⟨fun w' hb => hr.keep hb (by omega)⟩
  have HBS : Keep (B ≤ S) := ⟨by omega⟩
  have hgd := gd6
  have HO : Keep _ := ⟨ho⟩
  rw [ho, hS]
  obtain ⟨x, hx⟩ : ∃ x, fe (num a) = x := ⟨_, rfl⟩
  have LX : Keep (x.length = 6 ∧ Words x) := ⟨by rw [← hx]; exact fe_len _, by rw [← hx]; exact fe_words _⟩
  have HX : Keep _ := ⟨hx⟩
  clear hla hwa hG hw hr hx ho hB
  have HC : Keep (cmpL l [] = 1) := ⟨by
    have := (num_bounds LW.out).1
    rw [cmpL, num_nil, if_neg (by omega), if_neg hz]⟩
  have E1 := eq6_ne x Z6 LX.out.1 rfl (by rw [← HX.out]; exact hx0)
  obtain ⟨m, hm⟩ : ∃ m, fe (-1) = m := ⟨_, rfl⟩
  have LM : Keep (m.length = 6 ∧ Words m ∧ num m = PP - 1) := ⟨by rw [← hm]; exact fe_len _, by rw [← hm]; exact fe_words _, by rw [← hm]; exact num_less_one⟩
  have HM : Keep _ := ⟨hm⟩
  have NG : Keep (∀ w', Below S w w' → Calls Tryd.prog 27 #[.agg (vals .u64 [1, 0, 0, 0, 0, 0])] w' fun e w'' => e = .returned (.agg (vals .u64 m)) ∧ Below w'.heap.size w' w'') := ⟨fun w' hb' => by
    have := fpNeg_c [1, 0, 0, 0, 0, 0] rfl (words_of _ (by decide)) w' (HGG.out _ hb')
    rwa [num_oneL, HM.out] at this⟩
  obtain ⟨L, hL⟩ : ∃ L, wd 6 (num l % num m) = L := ⟨_, rfl⟩
  have hx1 : num a % PP ≠ 0 := fun h => hx0 (by rw [(fe_zero_iff _).2 h, fe_zero])
  have SP : Keep (∀ A' c' w', Below S w w' → Rd w' w'.heap.size A' 6 .u64 L → Calls Tryd.prog 66 #[.agg (vals .u64 x), .slice A' 6 c'] w' fun e w'' => e = .returned (.agg (vals .u64 o)) ∧ Below w'.heap.size w' w'') := ⟨fun A' c' w' hb' hrd => by
    have h1 : (0 : Int) < PP - 1 := by decide
    have h2 : num L = num l % (PP - 1) := by
      rw [← hL, LM.out.2.2, num_wd]
      have h3 := Int.emod_nonneg (num l) (show (PP - 1) ≠ 0 by decide)
      have h4 := Int.emod_lt_of_pos (num l) h1
      have h5 := PP_lt
      exact Int.emod_eq_of_lt h3 (by omega)
    have := shortPow_c x LX.out.1 LX.out.2 A' 6 c' L w'.heap.size w' (HGG.out _ hb') hrd (by rw [← hL]; exact wd_words _ _) (Nat.le_refl _) (by omega)
    rwa [h2, ← HX.out, fe_pw, fermat_red h1 (pw_fermat hx1) (num_bounds LW.out).1, HO.out, HX.out] at this⟩
  have HL : Keep _ := ⟨hL⟩
  clear hz hx0 hm hL hx1
  have CM : Keep (∀ w', Below S w w' → Calls Tryd.prog 42 #[.slice A n c, .slice none 0 0] w' fun e w'' => e = .returned (.int .i64 1) ∧ Below w'.heap.size w' w'') := ⟨fun w' hb' => by
    have := cmp_c A n c l none 0 0 [] B w' (HRD.out _ hb') LW.out ⟨rfl, fun h => absurd h (by omega)⟩ (words_of _ (by intro i hi; simp at hi)) (Nat.le_trans HBS.out (HSS.out _ hb')) hn (by omega)
    rwa [HC.out] at this⟩
  go_enter Tryd.func33, Tryd.ntmps33
  go_wp2_with (first
    | (refine wpList_buildTo (by rfl) 25 #[(0, .const (.int .u64 1))] (by rfl) (some 18) (by rfl) (vals .u64 [1, 0, 0, 0, 0, 0]) (by kernel_rfl) ?_)
    | (have q1 := g5
       refine wpList_load_row rfl 25 (.tmp 2) rfl S rfl _ _ _ _ hA5.eq Tryd.underlying25 rfl (by rw [vals_size, LX.out.1]; kernel_rfl) ?_)
    | (refine wpList_load_row rfl 25 (.tmp 2) rfl S rfl _ _ _ _ hA2.eq Tryd.underlying25 rfl (by first | (rw [vals_size, LX.out.1]; kernel_rfl) | kernel_rfl) ?_)
    | (refine wpList_buildTo (by rfl) 25 #[] (by rfl) (some 12) (by rfl) (vals .u64 Z6) (by kernel_rfl) ?_)
    | (refine wpList_store_rowTo rfl 25 (.tmp 4) (.tmp 28) rfl rfl (S + 1) (vals .u64 o) rfl rfl _ _ hR6.eq (by first | (rw [vals_size, OL.out]; kernel_rfl) | kernel_rfl) (by first | (rw [vals_size, vals_size, OL.out]; rfl) | rfl) vals_one ?_)
    | (have q1 := g5
       go_at_call 66
       refine (SP.out _ _ _ hb5 hF5).mono ?_
       rintro e w6 ⟨rfl, hq⟩
       have hR6 := hR5.keep hq
       have hb6 := hb5.trans (hq.mono (HSS.out _ hb5))
       clear hq hA5 hR5 hb5)
    | (have q1 := g4
       go_at_call 65
       refine (mod_c A n c l (some ⟨w3.heap.size, 0, none⟩) 6 6 m w4.heap.size w4 ((HRD.out _ hb4).more (Nat.le_trans HBS.out (HSS.out _ hb4))) LW.out (Rd.of_has hM4 hM4.lt (by rw [List.drop_zero, take_all LM.out.1]) (by rw [LM.out.1]; omega)) LM.out.2.1 (Nat.le_refl _) hn (by omega) (Nat.le_refl _) (by rw [LM.out.2.2]; decide)).mono ?_
       rintro e w5 ⟨A', c', rfl, hfrs, hq⟩
       rw [HL.out] at hfrs
       have g5 := True.intro
       have hF5 := hfrs.rd
       have hA5 := hA4.keep hq
       have hR5 := hR4.keep hq
       have hb5 := hb4.trans (hq.mono (HSS.out _ hb4))
       clear hq hA4 hR4 hb4 hM4 hfrs g4)
    | (have q1 := g3
       refine store_abs2 (by rfl) 25 (.tmp 5) (.tmp 19) (by rfl) (by rfl) w3.heap.size (vals .u64 m) (by rfl) (by rfl) 25 (vals .u64 Z6) (Has.new' _ rfl _ _) (by rw [vals_size, LM.out.1]; kernel_rfl) (by rw [vals_size, vals_size, LM.out.1]; rfl) vals_one ?_
       intro w4 hM4 hkeep hbg
       have g4 := True.intro
       have hbe := ((Below.refl w3.heap.size w3).alloc (Nat.le_refl _) (.cells (vals .u64 Z6) 25)).trans hbg
       have hA4 := hA3.keep hbe
       have hR4 := hR3.keep hbe
       have hb4 := hb3.trans (hbe.mono (HSS.out _ hb3))
       clear hkeep hbg hbe hA3 hR3 hb3 g3)
    | (go_at_call 27
       refine (NG.out _ hb2).mono ?_
       rintro e w3 ⟨rfl, hq⟩
       have g3 := True.intro
       have hA3 := hA2.keep hq
       have hR3 := hR2.keep hq
       have hb3 := hb2.trans (hq.mono (HSS.out _ hb2))
       clear hq hA2 hR2 hb2)
    | (go_at_call 42
       refine (CM.out _ hb1).mono ?_
       rintro e w2 ⟨rfl, hq⟩
       have hA2 := hA1.keep hq
       have hR2 := hR1.keep hq
       have hb2 := hb1.trans (hq.mono (HSS.out _ hb1))
       clear hq hA1 hR1 hb1)
    | (go_at_call 52
       refine (fpLower_c S 25 a LA.out WA.out FR.out _ (HGG.out _ hb0) hA0).mono ?_
       rintro e w1 ⟨rfl, hA1, ho⟩
       rw [HX.out] at hA1
       have hR1 := ho.has hR0 (by omega)
       have hb1 := hb0.trans (ho.below (B := S) (by omega) (HSS.out _ hb0))
       clear ho hA0 hR0 hb0))
  refine bodyPost_ret (v := .agg (vals .u64 o)) (results_cell_row rfl _ _ (S + 1) _ _ _ _ rfl (hR6.row _).eq Tryd.underlying25 rfl (by first | (rw [vals_size, OL.out]; kernel_rfl) | kernel_rfl)) rfl ⟨by first | rfl | rw [FIN.out], below_row hb6 (by omega) _⟩
theorem fpPow_c (a : List Int) (hla : a.length = 6) (hwa : Words a) (A : Option Addr) (n c : Nat) (l : List Int) (B : Nat) (w : World) (hG : Glob w) (hr : Rd w B A n .u64 l) (hw : Words l) (hB : B ≤ w.heap.size) (hn : n ≤ 10000) : Calls Tryd.prog 33 #[.agg (vals .u64 a), .slice A n c] w fun e w' => e = .returned (.agg (vals .u64 (fe (pw (num a) (num l))))) ∧ Below w.heap.size w w' := by
  by_cases hz : num l = 0
  · exact pow_zero_w a hla hwa A n c l B w hG hr hw hB hn hz
  · by_cases hx : fe (num a) = Z6
    · exact pow_nought_w a hla hwa A n c l B w hG hr hw hB hn hz hx
    · by_cases h6 : n ≤ 6
      · exact pow_short_w a hla hwa A n c l B w hG hr hw hB hn hz hx h6
      · exact pow_long_w a hla hwa A n c l B w hG hr hw hB hn hz hx (by omega)
end Go.Proofs.YtpkfknmpegieaaaDoor.Fp
