/-
  Own text. The contracts of layer 6's reference: R, less.
-/
import Derived.Test.YthaoebamnlmfpaaFrSpec
import Derived.Test.YthaoebamnlmfpaaLimbRef
import Derived.Test.YthaoebamnlmfpaaBits
import Derived.Test.YthaoebamnlmfpaaRegF
import Derived.Deep.LoopGhost
namespace Go.Proofs.Ythaoebamnlmfpaa.Fr
set_option linter.unusedVariables false
set_option linter.unusedSimpArgs false
open Go Go.RowKit Go.Proofs.Ythaoebamnlmfpaa.Num Go.Proofs.Ythaoebamnlmfpaa.Reg Go.Proofs.Ythaoebamnlmfpaa.Base Go.Proofs.Ythaoebamnlmfpaa.Limb Go.Proofs.Ythaoebamnlmfpaa.Bits

set_option maxRecDepth 100000 in
set_option maxHeartbeats 2000000 in
theorem refR_c (w : World) : Calls Try.prog 13 #[] w fun e w' => e = .returned (.agg (vals .u64 mL)) ∧ Below w.heap.size w w' := by
  have hR : Has (w.alloc (.cells (vals .u64 Z4) 25)) w.heap.size 25 (vals .u64 Z4) := Has.new _ _ _
  have hb : Below w.heap.size w (w.alloc (.cells (vals .u64 Z4) 25)) := (Below.refl _ _).alloc (Nat.le_refl _) _
  go_enter Try.func13, Try.ntmps13
  go_wp2_with (first
    | (refine wpList_buildFlatArrTo rfl 25 23 4 _ rfl .u64 mL (some 1) rfl Try.underlying25 (by kernel_rfl) (by kernel_rfl) rfl ?_)
    | (refine wpList_store_rowTo rfl 25 (.tmp 0) (.tmp 1) rfl rfl w.heap.size (vals .u64 mL) rfl rfl _ _ hR.eq (by kernel_rfl) (by rfl) vals_one ?_))
  refine bodyPost_ret (v := .agg (vals .u64 mL)) (results_cell_row rfl _ _ w.heap.size _ _ _ _ rfl (hR.row _).eq Try.underlying25 rfl (by kernel_rfl)) rfl ⟨rfl, below_row hb (Nat.le_refl _) _⟩

theorem less_bw {a o : List Int} {bw : Int} (hla : a.length = 4) (hwa : Words a) (hlo : o.length = 4) (hwo : Words o) (h0 : 0 ≤ bw) (h1 : bw ≤ 1) (e : num o - wp 4 * bw = num a - RR) : (num a < RR → bw = 1) ∧ (RR ≤ num a → bw = 0) ∧ o = wd 4 (num a - RR) := by
  have n1 := num4 hwo hlo
  have n2 := num4 hwa hla
  have hp := RR_lt
  refine ⟨fun h => ?_, fun h => ?_, ?_⟩
  · rcases (show bw = 0 ∨ bw = 1 by omega) with h3 | h3
    · subst h3; omega
    · exact h3
  · rcases (show bw = 0 ∨ bw = 1 by omega) with h3 | h3
    · exact h3
    · subst h3; omega
  · exact (wd_of (c := -bw) (v := num a - RR) hwo hlo (by rw [← e]; grind)).1

set_option maxRecDepth 100000 in
set_option maxHeartbeats 2000000 in
theorem refLess_c (a : List Int) (hla : a.length = 4) (hwa : Words a) (c : Int) (hc0 : 0 ≤ c) (hc1 : c ≤ 1) (w : World) : Calls Try.prog 38 #[.agg (vals .u64 a), .int .u64 c] w fun e w' => e = .returned (.agg (vals .u64 (if num a < RR ∧ c = 0 then a else wd 4 (num a - RR)))) ∧ Below w.heap.size w w' := by
  have La : Keep (a.length = 4) := ⟨hla⟩
  have Va : Keep (Words a) := ⟨hwa⟩
  have LZ : Keep (Z4.length = 4) := ⟨rfl⟩
  have LM : Keep (mL.length = 4) := ⟨rfl⟩
  obtain ⟨res, hres⟩ : ∃ o, (if num a < RR ∧ c = 0 then a else wd 4 (num a - RR)) = o := ⟨_, rfl⟩
  have HRES : Keep _ := ⟨hres⟩
  rw [hres]
  clear hres
  obtain ⟨S, hS⟩ : ∃ S, w.heap.size = S := ⟨_, rfl⟩
  have qa0 : Has ((w.alloc (.cells (vals .u64 a) 25)).alloc (.cells (vals .u64 Z4) 25)) (S) 25 (vals .u64 a) := by exact ((Has.new' _ hS.symm _ _).alloc _)
  have qo0 : Has ((w.alloc (.cells (vals .u64 a) 25)).alloc (.cells (vals .u64 Z4) 25)) (S + 1) 25 (vals .u64 Z4) := by exact (Has.new' _ (by simp only [World.size_alloc, hS]) _ _)
  have hb0 : Below S w ((w.alloc (.cells (vals .u64 a) 25)).alloc (.cells (vals .u64 Z4) 25)) := by rw [← hS]; exact (((Below.refl _ _).alloc (Nat.le_refl _) _).alloc (by simp) _)
  have hsz0 : ((w.alloc (.cells (vals .u64 a) 25)).alloc (.cells (vals .u64 Z4) 25)).heap.size = S + 2 := by simp only [World.size_alloc, hS]
  have HS0 : Keep (S ≤ w.heap.size) := ⟨by omega⟩
  have HSS : Keep (∀ x : World, Below S w x → S ≤ x.heap.size) := ⟨fun x hb => Nat.le_trans HS0.out hb.size⟩
  rw [hS]
  clear hla hwa
  go_enter Try.func38, Try.ntmps38
  go_wp2_with (first
    | (refine store_abs2 (by rfl) 25 (.tmp 5) (.tmp 11) (by rfl) (by rfl) (w1.heap.size) (vals .u64 mL) (by rfl) (by rfl) 25 (vals .u64 Z4) (Has.new' _ rfl _ _) (by rw [vals_size, LM.out]; kernel_rfl) (by first | rfl | (rw [vals_size, vals_size, LM.out]; rfl)) vals_one ?_
       intro w2 qm2 hkeep hbg
       have hbe := ((Below.refl (w1).heap.size (w1)).alloc (Nat.le_refl _) (.cells (vals .u64 Z4) 25)).trans hbg
       have Nam : Keep (S < w1.heap.size) := ⟨qa1.lt⟩
       have Nom : Keep (S + 1 < w1.heap.size) := ⟨qo1.lt⟩
       have Mm : Keep (S ≤ w1.heap.size) := ⟨HSS.out _ hb1⟩
       have qa2 := qa1.keep hbe
       have qo2 := qo1.keep hbe
       have hb2 := hb1.trans (hbe.mono (HSS.out _ hb1))
       clear hkeep hbg hbe hb1 qa1 qo1)
    | (go_at_call 13
       refine (refR_c _).mono ?_
       rintro e w1 ⟨rfl, hq⟩
       have qa1 := qa0.keep hq
       have qo1 := qo0.keep hq
       have hb1 := hb0.trans (hq.mono (HSS.out _ hb0))
       clear hq hb0 qa0 qo0))
  have hal : Below w2.heap.size w2 (w2.alloc (.cells (vals .u64 Z4) 25)) := (Below.refl _ _).alloc (Nat.le_refl _) _
  have qa2' := qa2.keep hal
  have Nax : Keep (S < w2.heap.size) := ⟨qa2.lt⟩
  have qo2' := qo2.keep hal
  have Nox : Keep (S + 1 < w2.heap.size) := ⟨qo2.lt⟩
  have qm2' := qm2.keep hal
  have Nmx : Keep (w1.heap.size < w2.heap.size) := ⟨qm2.lt⟩
  have Mx : Keep (S ≤ w2.heap.size) := ⟨HSS.out _ hb2⟩
  have hx0 : Has (w2.alloc (.cells (vals .u64 Z4) 25)) w2.heap.size 25 (vals .u64 (padTo 4 [])) := Has.new _ _ _
  have hb' := hb2.trans (hal.mono (HSS.out _ hb2))
  clear hal qa2 qo2 qm2 hb2
  obtain ⟨gx, hgx⟩ : ∃ g, w2.heap.size = g := ⟨_, rfl⟩
  rw [hgx] at hx0 Mx Nax Nox Nmx ⊢
  go_loopw [7, 8] (fun vb vi wr => ∃ (k : Nat) (o : List Int) (bw : Int), k ≤ 4 ∧ vi = .int .i64 k ∧ vb = .int .u64 bw ∧ 0 ≤ bw ∧ bw ≤ 1 ∧ Keep (Words o ∧ o.length = k ∧ num o - wp k * bw = low a k - low mL k) ∧ Has wr S 25 (vals .u64 a) ∧ Has wr (S + 1) 25 (vals .u64 Z4) ∧ Has wr (w1.heap.size) 25 (vals .u64 mL) ∧ Has wr gx 25 (vals .u64 (padTo 4 o)) ∧ Below S w wr) (fun _ vi _ => 4 - (intOf vi).toNat)
  case atStart => exact ⟨0, [], 0, by omega, rfl, rfl, by omega, by omega, ⟨words_nil, rfl, by simp [num_nil, low_zero]⟩, qa2', qo2', qm2', hx0, hb'⟩
  case round =>
    clear qa2' qo2' qm2' hx0 hb'
    obtain ⟨k, o, bw, hk, rfl, rfl, hbw0, hbw1, hI, hA, hR, hM, hO, hb⟩ := hrel
    by_cases hlt : k < 4
    · obtain ⟨x, hx⟩ : ∃ x, nth a k = x := ⟨_, rfl⟩
      obtain ⟨y, hy⟩ : ∃ y, nth mL k = y := ⟨_, rfl⟩
      have bx : 0 ≤ x ∧ x ≤ 18446744073709551615 := hx ▸ Va.out k
      have by' : 0 ≤ y ∧ y ≤ 18446744073709551615 := hy ▸ mL_words k
      have hsub := subc_run x y bw bx.1 by'.1 by'.2 hbw0 hbw1
      obtain ⟨d, hd⟩ : ∃ d, (x - y - bw) % 18446744073709551616 = d := ⟨_, rfl⟩
      obtain ⟨nb, hnb⟩ : ∃ nb, (if x < y + bw then (1 : Int) else 0) = nb := ⟨_, rfl⟩
      rw [hd, hnb] at hsub
      have hst : d - 18446744073709551616 * nb = x - y - bw ∧ 0 ≤ d ∧ d ≤ 18446744073709551615 ∧ 0 ≤ nb ∧ nb ≤ 1 := by
        rw [← hd, ← hnb]
        by_cases h : x < y + bw
        · rw [if_pos h]; omega
        · rw [if_neg h]; omega
      have HS : Keep (Words (o ++ [d]) ∧ (o ++ [d]).length = k + 1 ∧ num (o ++ [d]) - wp (k + 1) * nb = low a (k + 1) - low mL (k + 1)) := ⟨words_append hI.out.1 (words_one hst.2.1 hst.2.2.1), by rw [List.length_append, hI.out.2.1]; rfl, sub_step hI.out.2.1 hI.out.2.2 (by rw [hx, hy]; exact hst.1)⟩
      have Q0 : Keep (∀ w', Below wr.heap.size wr w' → w'.cell? ⟨S, k, none⟩ = some (.int .u64 x)) := ⟨fun w' hb' => by rw [← hx]; exact (hA.keep hb').val (by rw [La.out]; omega)⟩
      have Q1 : Keep (∀ w', Below wr.heap.size wr w' → w'.cell? ⟨w1.heap.size, k, none⟩ = some (.int .u64 y)) := ⟨fun w' hb' => by rw [← hy]; exact (hM.keep hb').val (by show k < 4; omega)⟩
      have hnb0 : 0 ≤ nb ∧ nb ≤ 1 := hst.2.2.2
      clear hd hnb hx hy hst bx by'
      go_wp2
      refine wp_fam_all (by kernel_rfl) (by kernel_rfl) (fun I hI' fw hf hback => ?_)
      have c0 : ∀ j, (fw j).cell? ⟨S, k, none⟩ = some (.int .u64 x) := fun j => Q0.out _ (hf j)
      have c1 : ∀ j, (fw j).cell? ⟨w1.heap.size, k, none⟩ = some (.int .u64 y) := fun j => Q1.out _ (hf j)
      repeat (go_big_quiet_step (fail))
      refine wpQuiet_nil ?_
      intro w6 hb6
      clear c0 c1 hf hback hsub
      have hA6 := hA.keep hb6
      have hR6 := hR.keep hb6
      have hM6 := hM.keep hb6
      have hO6 := hO.keep hb6
      have hbb6 := hb.trans (hb6.mono (HSS.out _ hb))
      clear hA hM hR hO hb hb6
      have co := hO6.val (i := k) (by rw [padTo_len (by rw [hI.out.2.1]; omega)]; exact hlt)
      have zo := hO6.frozen k
      have hO7 := hO6.set_ k (.int .u64 d)
      rw [vals_set, padTo_set' hI.out.2.1 hlt] at hO7
      have hA7 := hA6.far (p := ⟨gx, k, none⟩) (Nat.ne_of_lt Nax.out) (.int .u64 d)
      have hR7 := hR6.far (p := ⟨gx, k, none⟩) (Nat.ne_of_lt Nox.out) (.int .u64 d)
      have hM7 := hM6.far (p := ⟨gx, k, none⟩) (Nat.ne_of_lt Nmx.out) (.int .u64 d)
      have hb7 := hbb6.setCell (p := ⟨gx, k, none⟩) Mx.out (.int .u64 d)
      clear hO6 hA6 hM6 hR6 hbb6
      go_wp2
      first
        | exact ⟨⟨k + 1, o ++ [d], nb, by omega, by go_num, rfl, hnb0.1, hnb0.2, HS, hA7, hR7, hM7, hO7, hb7⟩, by simp [intOf]; omega⟩
        | (go_roundw
           case rel => exact ⟨k + 1, o ++ [d], nb, by omega, by go_num, rfl, hnb0.1, hnb0.2, HS, hA7, hR7, hM7, hO7, hb7⟩
           case measure => simp [intOf]; omega)
    · obtain rfl : 4 = k := by omega
      have he := hI.out.2.2
      rw [low_num (by rw [La.out]; omega), low_num (show mL.length ≤ 4 from Nat.le_refl _), num_mL] at he
      obtain ⟨i1, i2, i3⟩ := less_bw La.out Va.out hI.out.2.1 hI.out.1 hbw0 hbw1 he
      rw [padTo_full hI.out.2.1] at hO
      have OL : Keep (o.length = 4) := ⟨hI.out.2.1⟩
      have I1 : Keep _ := ⟨i1⟩
      have I2 : Keep _ := ⟨i2⟩
      have I3 : Keep _ := ⟨i3⟩
      clear he i1 i2 i3
      rcases (show bw = 0 ∨ bw = 1 by omega) with rfl | rfl <;> rcases (show c = 0 ∨ c = 1 by omega) with rfl | rfl
      · have FIN : Keep (o = res) := ⟨by rw [← HRES.out, if_neg (fun h => absurd (I1.out h.1) (by decide))]; exact I3.out⟩
        go_wp2_with (first
          | (refine wpList_load_row rfl 25 (.tmp 6) rfl gx rfl _ _ _ _ hO.eq Try.underlying25 rfl (by rw [vals_size, OL.out]; kernel_rfl) ?_)
          | (refine wpList_store_rowTo rfl 25 (.tmp 4) (.tmp 35) rfl rfl (S + 1) (vals .u64 o) rfl rfl _ _ hR.eq (by rw [vals_size, OL.out]; kernel_rfl) (by rw [vals_size, vals_size, OL.out]; rfl) vals_one ?_))
        refine bodyPost_ret (v := .agg (vals .u64 o)) (results_cell_row rfl _ _ (S + 1) _ _ _ _ rfl (hR.row _).eq Try.underlying25 rfl (by rw [vals_size, OL.out]; kernel_rfl)) rfl ⟨ret_eq (by rw [FIN.out]), below_row hb (by omega) _⟩
      · have FIN : Keep (o = res) := ⟨by rw [← HRES.out, if_neg (fun h => absurd h.2 (by decide))]; exact I3.out⟩
        go_wp2_with (first
          | (refine wpList_load_row rfl 25 (.tmp 6) rfl gx rfl _ _ _ _ hO.eq Try.underlying25 rfl (by rw [vals_size, OL.out]; kernel_rfl) ?_)
          | (refine wpList_store_rowTo rfl 25 (.tmp 4) (.tmp 35) rfl rfl (S + 1) (vals .u64 o) rfl rfl _ _ hR.eq (by rw [vals_size, OL.out]; kernel_rfl) (by rw [vals_size, vals_size, OL.out]; rfl) vals_one ?_))
        refine bodyPost_ret (v := .agg (vals .u64 o)) (results_cell_row rfl _ _ (S + 1) _ _ _ _ rfl (hR.row _).eq Try.underlying25 rfl (by rw [vals_size, OL.out]; kernel_rfl)) rfl ⟨ret_eq (by rw [FIN.out]), below_row hb (by omega) _⟩
      · have FIN : Keep (a = res) := ⟨by rw [← HRES.out, if_pos ⟨by rcases Int.lt_or_le (num a) RR with h | h; exact h; exact absurd (I2.out h) (by decide), rfl⟩]⟩
        go_wp2_with (first
          | (refine wpList_load_row rfl 25 (.tmp 2) rfl S rfl _ _ _ _ hA.eq Try.underlying25 rfl (by rw [vals_size, La.out]; kernel_rfl) ?_)
          | (refine wpList_store_rowTo rfl 25 (.tmp 4) (.tmp 34) rfl rfl (S + 1) (vals .u64 a) rfl rfl _ _ hR.eq (by rw [vals_size, La.out]; kernel_rfl) (by rw [vals_size, vals_size, La.out]; rfl) vals_one ?_))
        refine bodyPost_ret (v := .agg (vals .u64 a)) (results_cell_row rfl _ _ (S + 1) _ _ _ _ rfl (hR.row _).eq Try.underlying25 rfl (by rw [vals_size, La.out]; kernel_rfl)) rfl ⟨ret_eq (by rw [FIN.out]), below_row hb (by omega) _⟩
      · have FIN : Keep (o = res) := ⟨by rw [← HRES.out, if_neg (fun h => absurd h.2 (by decide))]; exact I3.out⟩
        go_wp2_with (first
          | (refine wpList_load_row rfl 25 (.tmp 6) rfl gx rfl _ _ _ _ hO.eq Try.underlying25 rfl (by rw [vals_size, OL.out]; kernel_rfl) ?_)
          | (refine wpList_store_rowTo rfl 25 (.tmp 4) (.tmp 35) rfl rfl (S + 1) (vals .u64 o) rfl rfl _ _ hR.eq (by rw [vals_size, OL.out]; kernel_rfl) (by rw [vals_size, vals_size, OL.out]; rfl) vals_one ?_))
        refine bodyPost_ret (v := .agg (vals .u64 o)) (results_cell_row rfl _ _ (S + 1) _ _ _ _ rfl (hR.row _).eq Try.underlying25 rfl (by rw [vals_size, OL.out]; kernel_rfl)) rfl ⟨ret_eq (by rw [FIN.out]), below_row hb (by omega) _⟩

end Go.Proofs.Ythaoebamnlmfpaa.Fr
