/-
  Own text. The modulus taken away as often as it goes: takeMultiples, lower of package fp.
-/
import Derived.Test.YtmohopjblhgdiaaDoorFpW3
import Derived.Test.YtmohopjblhgdiaaDoorLimbOwnC
import Derived.Test.YtmohopjblhgdiaaDoorMFpN
namespace Go.Proofs.YtmohopjblhgdiaaDoor.Fp
set_option linter.unusedVariables false
open Go Go.RowKit Go.Proofs.YtmohopjblhgdiaaDoor.Reg Go.Proofs.YtmohopjblhgdiaaDoor.Base Go.Proofs.YtmohopjblhgdiaaDoor.Limb Go.Proofs.YtmohopjblhgdiaaDoor.Bits

/-- 2^384 less p. -/
def oppL : List Int := [5044313057631688021, 16236602562192343040, 11011069500145469915, 11207406113294839104, 13034640295238849320, 16572945456062011749]
theorem num_oppL : num oppL = wp 6 - PP := by decide +kernel
theorem oppL_words : Words oppL := words_of _ (by decide)
/-- The estimate: as often as p goes, or once less. -/
theorem often {N B q : Int} (h0 : 0 ≤ N) (h1 : N < 4611686018427387904 * PP) (hB0 : B * 1231312693637327475383720003129487931408741852202045208373384168882678805359287831606695820465153613775207124697088 ≤ N) (hB1 : N < (B + 1) * 1231312693637327475383720003129487931408741852202045208373384168882678805359287831606695820465153613775207124697088) (hq0 : 18446744073709551616 * q ≤ B * 5675008971684246062) (hq1 : B * 5675008971684246062 < 18446744073709551616 * (q + 1)) :
    0 ≤ N - q * PP ∧ N - q * PP < 2 * PP ∧ 0 ≤ B ∧ B ≤ 18446744073709551615 := by
  have hB : 0 ≤ B ∧ B ≤ 18446744073709551615 := by rw [PP] at h1; omega
  refine ⟨?_, ?_, hB.1, hB.2⟩
  · have h2 : 18446744073709551616 * (q * PP) ≤ B * (5675008971684246062 * PP) := by
      have := Int.mul_le_mul_of_nonneg_right hq0 (Int.le_of_lt PP_pos)
      grind
    rw [PP] at h2 ⊢
    omega
  · have h2 : B * (5675008971684246062 * PP) < 18446744073709551616 * ((q + 1) * PP) := by
      have := Int.mul_lt_mul_of_pos_right hq1 PP_pos
      grind
    rw [PP] at h2 ⊢
    omega

theorem low_sum {a : List Int} {top N : Int} {x0 x1 x2 x3 x4 x5 : Int} (ha : a = [x0, x1, x2, x3, x4, x5]) (hw : Words a) (hN : num a + wp 6 * top = N) :
    (top * 32 + x5 / 576460752303423488) * 1231312693637327475383720003129487931408741852202045208373384168882678805359287831606695820465153613775207124697088 ≤ N ∧ N < (top * 32 + x5 / 576460752303423488 + 1) * 1231312693637327475383720003129487931408741852202045208373384168882678805359287831606695820465153613775207124697088 := by
  subst ha
  obtain ⟨b0, b1, b2, b3, b4, b5⟩ := words6 hw
  rw [num_of6, wp_six] at hN
  subst hN
  constructor <;> omega
theorem sum_of {o a : List Int} {N q top cy : Int} (hlo : o.length = 6) (hwo : Words o) (hN : num a + wp 6 * top = N) (h0 : 0 ≤ N - q * PP) (h1 : N - q * PP < 2 * PP) (he : num o + wp 6 * cy = num a + q * num oppL) : num o = N - q * PP := by
  have n1 := num6 hwo hlo
  have h2 := PP_lt
  rw [num_oppL, Int.mul_sub] at he
  have h3 : (num o) % wp 6 = (N - q * PP) % wp 6 := by
    have : num o = (N - q * PP) + wp 6 * (q - top - cy) := by grind
    rw [this, Int.add_mul_emod_self_left]
  rwa [Int.emod_eq_of_lt n1.1 n1.2, Int.emod_eq_of_lt h0 (by omega)] at h3
theorem once_of {o o' : List Int} {N q : Int} (hlo : o'.length = 6) (hwo : Words o') (hS : num o = N - q * PP) (h0 : 0 ≤ N - q * PP) (h1 : N - q * PP < 2 * PP) (he : num o' = if num o < PP then num o else num o - PP) : o' = fe N := by
  rw [hS] at he
  have hlt : num o' < PP := by
    split at he <;> omega
  rw [fe_below hwo hlo hlt]
  refine fe_congr ?_
  rw [he]
  split
  · rw [Int.mul_comm, Int.sub_mul_emod_self_left]
  · rw [show N - q * PP - PP = N - PP * (q + 1) by grind, Int.sub_mul_emod_self_left]

set_option maxRecDepth 100000 in
set_option maxHeartbeats 1000000 in
theorem takeMultiples_c (g : Nat) (t : TypeId) (a r : List Int) (top : Int) (hla : a.length = 6) (hwa : Words a) (h0 : 0 ≤ top) (h1 : num a + wp 6 * top < 4611686018427387904 * PP) (hf : Free g) (w : World) (hG : Glob w) (hA : Has w g t (vals .u64 (a ++ r))) :
    Calls Tryd.prog 58 #[.pointer (some ⟨g, 0, none⟩), .int .u64 top] w fun e w' => e = .returned (.tuple #[]) ∧ Has w' g t (vals .u64 (fe (num a + wp 6 * top) ++ r)) ∧ Only g w w' := by
  obtain ⟨x0, x1, x2, x3, x4, x5, ha⟩ := six_of hla
  have c5 : w.cell? ⟨g, 5, none⟩ = some (.int .u64 x5) := by rw [ha] at hA; exact hA.val (i := 5) (by simp <;> omega)
  have b5 : 0 ≤ x5 ∧ x5 ≤ 18446744073709551615 := by have := hwa 5; rw [ha] at this; exact this
  obtain ⟨N, hN⟩ : ∃ N, num a + wp 6 * top = N := ⟨_, rfl⟩
  have hls := low_sum ha hwa hN
  rw [hN] at h1 ⊢
  have hN0 : 0 ≤ N := by
    have := (num6 hwa hla).1
    have := wp_six
    rw [← hN]
    have : 0 ≤ wp 6 * top := Int.mul_nonneg (Int.le_of_lt (wp_pos 6)) h0
    omega
  obtain ⟨B, hB⟩ : ∃ B, top * 32 + x5 / 576460752303423488 = B := ⟨_, rfl⟩
  rw [hB] at hls
  have hBb : 0 ≤ B ∧ B ≤ 18446744073709551615 := by rw [PP] at h1; omega
  obtain ⟨q, l, MU, F, bq, bl⟩ := mul_told B 5675008971684246062 hBb ⟨by omega, by omega⟩
  have of := often (q := q) hN0 h1 hls.1 hls.2 (by have := F.out; omega) (by have := F.out; omega)
  have hor : bits .or .u64 (IntKind.u64.wrap (top * 32)) (x5 / 576460752303423488) = B := by
    rw [IntKind.wrap_u64, Int.emod_eq_of_lt (by omega) (by omega), ← hB]
    exact bits_join .u64 64 (by decide) (fun n h0 h1 => by rw [IntKind.wrap_u64]; omega) 5 (top * 32) _ (by omega) (by omega) (by omega) (by omega) (by omega) (by omega)
  have OF : Keep _ := ⟨of⟩
  have LA : Keep _ := ⟨hla⟩
  have WA : Keep _ := ⟨hwa⟩
  have HN : Keep _ := ⟨hN⟩
  have HF : Keep _ := ⟨hf⟩
  have HG : Keep _ := ⟨hG⟩
  have hgl := hA.lt
  have hne : g ≠ w.heap.size := by omega
  clear hf hG hla hwa hN ha F bl of hls h0 h1 hN0 b5 hBb hB
  go_enter Tryd.func58, Tryd.ntmps58
  go_wp2_with (first
    | (go_at_call 54
       refine (takeOnce_c g t o r LO.out WO.out HF.out _ HG2.out hA2).mono ?_
       rintro e w3 ⟨rfl, o', hA3, hl3, hw3, hn3, ho3⟩
       have hO3 := hO2.trans ho3
       have FIN : Keep _ := ⟨once_of hl3 hw3 HS.out OF.out.1 OF.out.2.1 hn3⟩
       rw [FIN.out] at hA3
       clear hA2 hO2 ho3 hn3 hl3 hw3)
    | (go_at_call 57
       refine (fpTimes_c g 0 w.heap.size t 24 [] a r oppL rfl LA.out WA.out rfl oppL_words q bq hne _ hA1 hQ1).mono ?_
       rintro e w2 ⟨o, cy, rfl, hA2, hlo, hwo, hno, _, _, ho2⟩
       have HG2 : Keep _ := ⟨HG1.out.only ho2 HF.out⟩
       have hO2 := hO1.trans ho2
       have LO : Keep _ := ⟨hlo⟩
       have WO : Keep _ := ⟨hwo⟩
       have HS : Keep _ := ⟨sum_of hlo hwo HN.out OF.out.1 OF.out.2.1 hno⟩
       rw [List.nil_append] at hA2
       clear hA1 hQ1 ho2 hO1 hlo hwo hno)
    | (refine wpList_buildFlatArrTo rfl 24 22 6 _ rfl .u64 oppL (some 19) rfl Tryd.underlying24 (by kernel_rfl) (by kernel_rfl) rfl ?_)
    | (refine store_abs2 (by rfl) 24 (.tmp 6) (.tmp 19) (by rfl) (by rfl) w.heap.size (vals .u64 oppL) (by rfl) (by rfl) 24 (vals .u64 Z6) (Has.new' _ rfl _ _) (by kernel_rfl) (by rfl) vals_one ?_
       intro w1 hQ1 hkeep hbg
       have hbe := ((Below.refl w.heap.size w).alloc (Nat.le_refl _) (.cells (vals .u64 Z6) 24)).trans hbg
       have hA1 : Has w1 g t (vals .u64 ([] ++ (a ++ r))) := hA.keep hbe
       have HG1 : Keep _ := ⟨HG.out.keep hbe⟩
       have hO1 : Only g w w1 := Only.of_below hbe g
       clear hkeep hbg hbe hA)
    | (go_at_call 77
       refine (MU.out _).mono ?_
       rintro e w0 ⟨rfl, rfl⟩
       clear c5 hor))
  go_end0
  exact ⟨rfl, hA3, hO3⟩

set_option maxRecDepth 100000 in
set_option maxHeartbeats 1000000 in
theorem fpLower_c (g : Nat) (t : TypeId) (a : List Int) (hla : a.length = 6) (hwa : Words a) (hf : Free g) (w : World) (hG : Glob w) (hA0 : Has w g t (vals .u64 a)) :
    Calls Tryd.prog 31 #[.pointer (some ⟨g, 0, none⟩)] w fun e w' => e = .returned (.tuple #[]) ∧ Has w' g t (vals .u64 (fe (num a))) ∧ Only g w w' := by
  obtain ⟨x0, x1, x2, x3, x4, x5, ha⟩ := six_of hla
  obtain ⟨tp, hP0⟩ := hG.p
  have C5 : Keep (∀ w', Below w.heap.size w w' → w'.cell? ⟨g, 5, none⟩ = some (.int .u64 x5)) := ⟨fun w' hb => by rw [ha] at hA0; exact (hA0.keep hb).val (i := 5) (by simp)⟩
  have P5 : Keep (∀ w', Below w.heap.size w w' → w'.cell? ⟨0, 5, none⟩ = some (.int .u64 1873798617647539866)) := ⟨fun w' hb => (hP0.keep hb).val (i := 5) (by decide)⟩
  have hless : x5 < 1873798617647539866 → num a < PP := by
    have hw := hwa
    rw [ha] at hw
    obtain ⟨b0, b1, b2, b3, b4, b5⟩ := words6 hw
    rw [ha, num_of6, PP]
    intro h
    omega
  have hlim : num a + wp 6 * 0 < 4611686018427387904 * PP := by
    have h1 := (num6 hwa hla).2
    have h2 := PP_lt
    rw [Int.mul_zero, Int.add_zero]
    omega
  have HT := fun w' hG' hA' => takeMultiples_c g t a [] 0 hla hwa (by omega) hlim hf w' hG' hA'
  rw [Int.mul_zero, Int.add_zero] at HT
  simp only [List.append_nil] at HT
  have HT' : Keep _ := ⟨HT⟩
  have HG : Keep _ := ⟨hG⟩
  have HL : Keep _ := ⟨hless⟩
  have LA : Keep _ := ⟨hla⟩
  have WA : Keep _ := ⟨hwa⟩
  clear HT hG hP0 hless hlim hla hwa ha
  by_cases hc : x5 < 1873798617647539866
  · have FIN : Keep _ := ⟨fe_below WA.out LA.out (HL.out hc)⟩
    have hge : (x5 ≥ 1873798617647539866) = False := by simp only [ge_iff_le, eq_iff_iff, iff_false]; omega
    have hgd : decide (1873798617647539866 ≤ x5) = false := decide_eq_false (by omega)
    go_enter Tryd.func31, Tryd.ntmps31
    go_wp2
    refine wp_fam_all (by kernel_rfl) (by kernel_rfl) (fun I hI' fw hf' hback => ?_)
    have ca : ∀ j, (fw j).cell? ⟨g, 5, none⟩ = some (.int .u64 x5) := fun j => C5.out _ (hf' j)
    have cp : ∀ j, (fw j).cell? ⟨0, 5, none⟩ = some (.int .u64 1873798617647539866) := fun j => P5.out _ (hf' j)
    repeat (go_big_quiet_step (fail))
    refine wpQuiet_nil ?_
    intro w1 hq
    clear ca cp hf' hback
    go_wp2
    go_end0
    exact ⟨rfl, FIN.out ▸ hA0.keep hq, Only.of_below hq g⟩
  · have hgd : decide (1873798617647539866 ≤ x5) = true := decide_eq_true (by omega)
    go_enter Tryd.func31, Tryd.ntmps31
    go_wp2
    refine wp_fam_all (by kernel_rfl) (by kernel_rfl) (fun I hI' fw hf' hback => ?_)
    have ca : ∀ j, (fw j).cell? ⟨g, 5, none⟩ = some (.int .u64 x5) := fun j => C5.out _ (hf' j)
    have cp : ∀ j, (fw j).cell? ⟨0, 5, none⟩ = some (.int .u64 1873798617647539866) := fun j => P5.out _ (hf' j)
    repeat (go_big_quiet_step (fail))
    refine wpQuiet_nil ?_
    intro w1 hq
    clear ca cp hf' hback
    have hA1 := hA0.keep hq
    have HG1 : Keep _ := ⟨HG.out.keep hq⟩
    have hO1 : Only g w w1 := Only.of_below hq g
    clear hA0 hq
    go_wp2_with (first
      | (go_at_call 58
         refine (HT'.out _ HG1.out hA1).mono ?_
         rintro e w2 ⟨rfl, hA2, ho2⟩
         have hO2 := hO1.trans ho2
         clear hA1 ho2 hO1))
    go_end0
    exact ⟨rfl, hA2, hO2⟩
end Go.Proofs.YtmohopjblhgdiaaDoor.Fp
