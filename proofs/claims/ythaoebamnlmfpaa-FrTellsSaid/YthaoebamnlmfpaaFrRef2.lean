/-
  Own text. The contracts of layer 6's reference: Reduce, plus.
-/
import Derived.Test.YthaoebamnlmfpaaFrRef
import Derived.Test.YthaoebamnlmfpaaBits
namespace Go.Proofs.Ythaoebamnlmfpaa.Fr
set_option linter.unusedVariables false
set_option linter.unusedSimpArgs false
open Go Go.RowKit Go.Proofs.Ythaoebamnlmfpaa.Num Go.Proofs.Ythaoebamnlmfpaa.Reg Go.Proofs.Ythaoebamnlmfpaa.Base Go.Proofs.Ythaoebamnlmfpaa.Limb Go.Proofs.Ythaoebamnlmfpaa.Bits

theorem eqn4 (l m : List Int) (hl : l.length = 4) (hm : m.length = 4) : ∀ w : World, (Op.equalIn 10000 25 (.agg (vals .u64 l)) (.agg (vals .u64 m))).run Try.prog w = .ok (decide (l = m)) w := fun w => by
  rw [equalIn_vals (d := 9998) Try.underlying25 Try.underlying23 (by kernel_rfl) (by kernel_rfl) hl hm]
theorem eq4 (l : List Int) (h : l.length = 4) : ∀ w : World, (Op.equalIn 10000 25 (.agg (vals .u64 l)) (.agg (vals .u64 l))).run Try.prog w = .ok true w := fun w => by
  rw [eqn4 l l h h, decide_eq_true rfl]
theorem gd4 : Try.prog.eqGuardType Try.prog.depth 25 = false := by kernel_rfl
theorem fr_of {x a : Int} (h0 : 0 ≤ x) (h1 : x < RR) (h : x % RR = a % RR) {l : List Int} (hl : l.length = 4) (hw : Words l) (hn : num l = x) : l = fr a := by
  rw [fr_below hw hl (by rw [hn]; exact h1), hn]
  exact fr_congr h
theorem sub_mod (x : Int) : (x - RR) % RR = x % RR := by rw [Int.sub_emod, Int.emod_self, Int.sub_zero, Int.emod_emod]

set_option maxRecDepth 100000 in
set_option maxHeartbeats 2000000 in
theorem refReduce_c (a : List Int) (hla : a.length = 4) (hwa : Words a) (w : World) : Calls Try.prog 15 #[.agg (vals .u64 a)] w fun e w' => e = .returned (.agg (vals .u64 (fr (num a)))) ∧ Below w.heap.size w w' := by
  have La : Keep (a.length = 4) := ⟨hla⟩
  have Va : Keep (Words a) := ⟨hwa⟩
  have LZ : Keep (Z4.length = 4) := ⟨rfl⟩
  have LM : Keep (mL.length = 4) := ⟨rfl⟩
  obtain ⟨res, hres⟩ : ∃ o, fr (num a) = o := ⟨_, rfl⟩
  have HRES : Keep _ := ⟨hres⟩
  have HU : Keep (num a < (3 + 1) * RR) := ⟨by have := num4 hwa hla; have := RR_lt; omega⟩
  have hgd := gd4
  rw [hres]
  clear hres
  obtain ⟨S, hS⟩ : ∃ S, w.heap.size = S := ⟨_, rfl⟩
  have qa0 : Has ((w.alloc (.cells (vals .u64 a) 25)).alloc (.cells (vals .u64 Z4) 25)) (S) 25 (vals .u64 a) := by exact ((Has.new' _ hS.symm _ _).alloc _)
  have qo0 : Has ((w.alloc (.cells (vals .u64 a) 25)).alloc (.cells (vals .u64 Z4) 25)) (S + 1) 25 (vals .u64 Z4) := by exact (Has.new' _ (by simp only [World.size_alloc, hS]) _ _)
  have hb0 : Below S w ((w.alloc (.cells (vals .u64 a) 25)).alloc (.cells (vals .u64 Z4) 25)) := by rw [← hS]; exact (((Below.refl _ _).alloc (Nat.le_refl _) _).alloc (by simp <;> omega) _)
  have hsz0 : ((w.alloc (.cells (vals .u64 a) 25)).alloc (.cells (vals .u64 Z4) 25)).heap.size = S + 2 := by simp only [World.size_alloc, hS]
  have HS0 : Keep (S ≤ w.heap.size) := ⟨by omega⟩
  have HSS : Keep (∀ x : World, Below S w x → S ≤ x.heap.size) := ⟨fun x hb => Nat.le_trans HS0.out hb.size⟩
  rw [hS]
  clear hla hwa
  go_enter Try.func15, Try.ntmps15
  go_wp2
  go_loopg [] 3 (fun (gk : Nat) w1 => ∃ x : List Int, Keep (x.length = 4 ∧ Words x ∧ num x % RR = num a % RR ∧ num x < ((gk : Int) + 1) * RR) ∧ Has w1 S 25 (vals .u64 x) ∧ Has w1 (S + 1) 25 (vals .u64 Z4) ∧ Below S w w1)
  case atStart => exact ⟨a, ⟨La.out, Va.out, rfl, HU.out⟩, qa0, qo0, hb0⟩
  case round =>
    clear qa0 qo0 hb0
    obtain ⟨x, HI, qa1, qo1, hb1⟩ := hrel
    have Lx : Keep (x.length = 4) := ⟨HI.out.1⟩
    have h0 := (num4 HI.out.2.1 HI.out.1).1
    have ht := (num4 HI.out.2.1 HI.out.1).2
    by_cases hlt : num x < RR
    · have P1 : Keep (∀ y : World, _) := ⟨fun y => refLess_c x HI.out.1 HI.out.2.1 0 (by decide) (by decide) y⟩
      rw [if_pos ⟨hlt, rfl⟩] at P1
      have E1 := eq4 x HI.out.1
      have FIN : Keep (x = res) := ⟨by rw [← HRES.out]; exact fr_of h0 hlt HI.out.2.2.1 HI.out.1 HI.out.2.1 rfl⟩
      clear h0 ht hlt
      go_wp2_with (first
        | (refine store_abs2 (by rfl) 25 (.tmp 2) (.tmp 9) (by rfl) (by rfl) (S + 1) (vals .u64 x) (by rfl) (by rfl) 25 _ qo3 (by rw [vals_size, Lx.out]; kernel_rfl) (by first | rfl | (rw [vals_size, vals_size, Lx.out]; rfl) | rw [vals_size, vals_size, Lx.out, LZ.out]) vals_one ?_
           intro w4 qo4 hkeep hbg
           have qa4 := hkeep _ _ _ qa3 (by omega)
           have qy4 := hkeep _ _ _ qy3 (Nat.ne_of_gt Noy.out)
           have hb4 := hb3.trans (hbg.mono (by omega))
           clear hkeep hbg hb3 qa3 qo3 qy3)
        | (refine wpList_load_row rfl 25 (.tmp 1) rfl (S) rfl _ _ _ _ qa3.eq Try.underlying25 rfl (by rw [vals_size, Lx.out]; kernel_rfl) ?_)
        | (refine wpList_load_row rfl 25 (.tmp 1) rfl (S) rfl _ _ _ _ qa3.eq Try.underlying25 rfl (by rw [vals_size, Lx.out]; kernel_rfl) ?_)
        | (refine wpList_load_row rfl 25 (.tmp 3) rfl (w2.heap.size) rfl _ _ _ _ qy3.eq Try.underlying25 rfl (by rw [vals_size, Lx.out]; kernel_rfl) ?_)
        | (refine store_abs2 (by rfl) 25 (.tmp 3) (.tmp 5) (by rfl) (by rfl) (w2.heap.size) (vals .u64 x) (by rfl) (by rfl) 25 (vals .u64 Z4) (Has.new' _ rfl _ _) (by rw [vals_size, Lx.out]; kernel_rfl) (by first | rfl | (rw [vals_size, vals_size, Lx.out]; rfl)) vals_one ?_
           intro w3 qy3 hkeep hbg
           have hbe := ((Below.refl (w2).heap.size (w2)).alloc (Nat.le_refl _) (.cells (vals .u64 Z4) 25)).trans hbg
           have Nay : Keep (S < w2.heap.size) := ⟨qa2.lt⟩
           have Noy : Keep (S + 1 < w2.heap.size) := ⟨qo2.lt⟩
           have My : Keep (S ≤ w2.heap.size) := ⟨HSS.out _ hb2⟩
           have qa3 := qa2.keep hbe
           have qo3 := qo2.keep hbe
           have hb3 := hb2.trans (hbe.mono (HSS.out _ hb2))
           clear hkeep hbg hbe hb2 qa2 qo2)
        | (go_at_call 38
           refine (P1.out _).mono ?_
           rintro e w2 ⟨rfl, hq⟩
           have qa2 := qa1.keep hq
           have qo2 := qo1.keep hq
           have hb2 := hb1.trans (hq.mono (HSS.out _ hb1))
           clear hq hb1 qa1 qo1)
        | (refine wpList_load_row rfl 25 (.tmp 1) rfl (S) rfl _ _ _ _ qa1.eq Try.underlying25 rfl (by rw [vals_size, Lx.out]; kernel_rfl) ?_))
      refine bodyPost_ret (v := .agg (vals .u64 x)) (results_cell_row rfl _ _ (S + 1) _ _ _ _ rfl qo4.eq Try.underlying25 rfl (by rw [vals_size, Lx.out]; kernel_rfl)) rfl ⟨ret_eq (by rw [FIN.out]), hb4⟩
    · have P1 : Keep (∀ y : World, _) := ⟨fun y => refLess_c x HI.out.1 HI.out.2.1 0 (by decide) (by decide) y⟩
      rw [if_neg (fun h => hlt h.1)] at P1
      obtain ⟨y, hy⟩ : ∃ y, wd 4 (num x - RR) = y := ⟨_, rfl⟩
      have hp := RR_lt
      have hny : num y = num x - RR := by rw [← hy]; exact num_wd_of (by omega) (by omega)
      have Ly : Keep (y.length = 4) := ⟨by rw [← hy]; exact wd_len _ _⟩
      have E1 : ∀ w : World, (Op.equalIn 10000 25 (.agg (vals .u64 y)) (.agg (vals .u64 x))).run Try.prog w = .ok false w := fun w => by rw [eqn4 y x Ly.out HI.out.1, decide_eq_false (fun e => by rw [e] at hny; have := RR_pos; omega)]
      rcases gk with _ | i
      · exact absurd HI.out.2.2.2 (by omega)
      have HY : Keep (y.length = 4 ∧ Words y ∧ num y % RR = num a % RR ∧ num y < ((i : Int) + 1) * RR) := ⟨Ly.out, by rw [← hy]; exact wd_words _ _, by rw [hny, sub_mod]; exact HI.out.2.2.1, by
        have h4 := HI.out.2.2.2
        rw [Int.natCast_succ, Int.add_mul, Int.one_mul] at h4
        omega⟩
      rw [hy] at P1
      clear h0 ht hlt hp hny hy
      go_wp2_with (first
        | (refine store_abs2 (by rfl) 25 (.tmp 1) (.tmp 10) (by rfl) (by rfl) (S) (vals .u64 y) (by rfl) (by rfl) 25 _ qa3 (by rw [vals_size, Ly.out]; kernel_rfl) (by first | rfl | (rw [vals_size, vals_size, Ly.out]; rfl) | rw [vals_size, vals_size, Ly.out, Lx.out]) vals_one ?_
           intro w4 qa4 hkeep hbg
           have qo4 := hkeep _ _ _ qo3 (by omega)
           have qy4 := hkeep _ _ _ qy3 (Nat.ne_of_gt Nay.out)
           have hb4 := hb3.trans (hbg.mono (by omega))
           clear hkeep hbg hb3 qa3 qo3 qy3)
        | (refine wpList_load_row rfl 25 (.tmp 3) rfl (w2.heap.size) rfl _ _ _ _ qy3.eq Try.underlying25 rfl (by rw [vals_size, Ly.out]; kernel_rfl) ?_)
        | (refine wpList_load_row rfl 25 (.tmp 1) rfl (S) rfl _ _ _ _ qa3.eq Try.underlying25 rfl (by rw [vals_size, Lx.out]; kernel_rfl) ?_)
        | (refine wpList_load_row rfl 25 (.tmp 3) rfl (w2.heap.size) rfl _ _ _ _ qy3.eq Try.underlying25 rfl (by rw [vals_size, Ly.out]; kernel_rfl) ?_)
        | (refine store_abs2 (by rfl) 25 (.tmp 3) (.tmp 5) (by rfl) (by rfl) (w2.heap.size) (vals .u64 y) (by rfl) (by rfl) 25 (vals .u64 Z4) (Has.new' _ rfl _ _) (by rw [vals_size, Ly.out]; kernel_rfl) (by first | rfl | (rw [vals_size, vals_size, Ly.out]; rfl)) vals_one ?_
           intro w3 qy3 hkeep hbg
           have hbe := ((Below.refl (w2).heap.size (w2)).alloc (Nat.le_refl _) (.cells (vals .u64 Z4) 25)).trans hbg
           have Nay : Keep (S < w2.heap.size) := ⟨qa2.lt⟩
           have Noy : Keep (S + 1 < w2.heap.size) := ⟨qo2.lt⟩
           have My : Keep (S ≤ w2.heap.size) := ⟨HSS.out _ hb2⟩
           have qa3 := qa2.keep hbe
           have qo3 := qo2.keep hbe
           have hb3 := hb2.trans (hbe.mono (HSS.out _ hb2))
           clear hkeep hbg hbe hb2 qa2 qo2)
        | (go_at_call 38
           refine (P1.out _).mono ?_
           rintro e w2 ⟨rfl, hq⟩
           have qa2 := qa1.keep hq
           have qo2 := qo1.keep hq
           have hb2 := hb1.trans (hq.mono (HSS.out _ hb1))
           clear hq hb1 qa1 qo1)
        | (refine wpList_load_row rfl 25 (.tmp 1) rfl (S) rfl _ _ _ _ qa1.eq Try.underlying25 rfl (by rw [vals_size, Lx.out]; kernel_rfl) ?_))
      go_roundg i
      case measure => omega
      case rel => exact ⟨y, HY, qa4, qo4, hb4⟩

set_option maxRecDepth 100000 in
set_option maxHeartbeats 2000000 in
theorem refPlus_c (a : List Int) (hla : a.length = 4) (hwa : Words a) (b : List Int) (hlb : b.length = 4) (hwb : Words b) (ha : num a < RR) (hb : num b < RR) (w : World) : Calls Try.prog 39 #[.agg (vals .u64 a), .agg (vals .u64 b)] w fun e w' => e = .returned (.agg (vals .u64 (fr (num a + num b)))) ∧ Below w.heap.size w w' := by
  have La : Keep (a.length = 4) := ⟨hla⟩
  have Va : Keep (Words a) := ⟨hwa⟩
  have Lb : Keep (b.length = 4) := ⟨hlb⟩
  have Vb : Keep (Words b) := ⟨hwb⟩
  have LZ : Keep (Z4.length = 4) := ⟨rfl⟩
  have LM : Keep (mL.length = 4) := ⟨rfl⟩
  obtain ⟨res, hres⟩ : ∃ o, fr (num a + num b) = o := ⟨_, rfl⟩
  have Lr : Keep (res.length = 4) := ⟨by rw [← hres]; exact fr_len _⟩
  have HRES : Keep _ := ⟨hres⟩
  have HA : Keep _ := ⟨And.intro ha hb⟩
  rw [hres]
  clear hres ha hb
  obtain ⟨S, hS⟩ : ∃ S, w.heap.size = S := ⟨_, rfl⟩
  have qa0 : Has (((w.alloc (.cells (vals .u64 a) 25)).alloc (.cells (vals .u64 b) 25)).alloc (.cells (vals .u64 Z4) 25)) (S) 25 (vals .u64 a) := by exact (((Has.new' _ hS.symm _ _).alloc _).alloc _)
  have qb0 : Has (((w.alloc (.cells (vals .u64 a) 25)).alloc (.cells (vals .u64 b) 25)).alloc (.cells (vals .u64 Z4) 25)) (S + 1) 25 (vals .u64 b) := by exact ((Has.new' _ (by simp only [World.size_alloc, hS]) _ _).alloc _)
  have qo0 : Has (((w.alloc (.cells (vals .u64 a) 25)).alloc (.cells (vals .u64 b) 25)).alloc (.cells (vals .u64 Z4) 25)) (S + 2) 25 (vals .u64 Z4) := by exact (Has.new' _ (by simp only [World.size_alloc, hS]) _ _)
  have hb0 : Below S w (((w.alloc (.cells (vals .u64 a) 25)).alloc (.cells (vals .u64 b) 25)).alloc (.cells (vals .u64 Z4) 25)) := by rw [← hS]; exact ((((Below.refl _ _).alloc (Nat.le_refl _) _).alloc (by simp <;> omega) _).alloc (by simp <;> omega) _)
  have hsz0 : (((w.alloc (.cells (vals .u64 a) 25)).alloc (.cells (vals .u64 b) 25)).alloc (.cells (vals .u64 Z4) 25)).heap.size = S + 3 := by simp only [World.size_alloc, hS]
  have HS0 : Keep (S ≤ w.heap.size) := ⟨by omega⟩
  have HSS : Keep (∀ x : World, Below S w x → S ≤ x.heap.size) := ⟨fun x hb => Nat.le_trans HS0.out hb.size⟩
  rw [hS]
  clear hla hwa hlb hwb
  go_enter Try.func39, Try.ntmps39
  go_wp2
  go_loopw [5, 6] (fun vc vi w1 => ∃ (k : Nat) (o : List Int) (cy : Int), k ≤ 4 ∧ vi = .int .i64 k ∧ vc = .int .u64 cy ∧ 0 ≤ cy ∧ cy ≤ 1 ∧ Keep (Words o ∧ o.length = k ∧ num o + wp k * cy = low a k + low b k) ∧ Has w1 S 25 (vals .u64 (o ++ a.drop k)) ∧ Has w1 (S + 1) 25 (vals .u64 b) ∧ Has w1 (S + 2) 25 (vals .u64 Z4) ∧ Below S w w1) (fun _ vi _ => 4 - (intOf vi).toNat)
  case atStart => exact ⟨0, [], 0, by omega, rfl, rfl, by omega, by omega, ⟨words_nil, rfl, by simp [num_nil, low_zero]⟩, qa0, qb0, qo0, hb0⟩
  case round =>
    clear qa0 qb0 qo0 hb0
    obtain ⟨k, o, cy, hk, rfl, rfl, hc0, hc1, hI, qa1, qb1, qo1, hb1⟩ := hrel
    by_cases hlt : k < 4
    · obtain ⟨x, hx⟩ : ∃ x, nth a k = x := ⟨_, rfl⟩
      obtain ⟨y, hy⟩ : ∃ y, nth b k = y := ⟨_, rfl⟩
      have bx : 0 ≤ x ∧ x ≤ 18446744073709551615 := hx ▸ Va.out k
      have by' : 0 ≤ y ∧ y ≤ 18446744073709551615 := hy ▸ Vb.out k
      have hadd := addc_run x y cy bx.1 by'.1 hc0 hc1
      obtain ⟨d, hd⟩ : ∃ d, (x + y + cy) % 18446744073709551616 = d := ⟨_, rfl⟩
      obtain ⟨nc, hnc⟩ : ∃ nc, (x + y + cy) / 18446744073709551616 = nc := ⟨_, rfl⟩
      rw [hd, hnc] at hadd
      have hst : d + 18446744073709551616 * nc = x + y + cy ∧ 0 ≤ d ∧ d ≤ 18446744073709551615 ∧ 0 ≤ nc ∧ nc ≤ 1 := by omega
      have hlo := hI.out.2.1
      have HS : Keep (Words (o ++ [d]) ∧ (o ++ [d]).length = k + 1 ∧ num (o ++ [d]) + wp (k + 1) * nc = low a (k + 1) + low b (k + 1)) := ⟨words_append hI.out.1 (words_one hst.2.1 hst.2.2.1), by rw [List.length_append, hlo]; rfl, add_step hlo hI.out.2.2 (by rw [hx, hy]; exact hst.1)⟩
      have hnth : nth (o ++ a.drop k) k = x := by rw [nth_append_right _ _ _ (by omega), hlo, Nat.sub_self, nth_drop, Nat.add_zero, hx]
      have hset : (o ++ a.drop k).set k d = (o ++ [d]) ++ a.drop (k + 1) := by
        rw [List.set_append, if_neg (by omega), hlo, Nat.sub_self, List.drop_eq_getElem_cons (by rw [La.out]; exact hlt), List.set_cons_zero, List.append_assoc, List.singleton_append]
      have hll : (o ++ a.drop k).length = 4 := by rw [List.length_append, List.length_drop, La.out, hlo]; omega
      have Q0 : Keep (∀ w', Below wr.heap.size wr w' → w'.cell? ⟨S, k, none⟩ = some (.int .u64 x)) := ⟨fun w' hb' => by rw [← hnth]; exact (qa1.keep hb').val (by rw [hll]; exact hlt)⟩
      have Q1 : Keep (∀ w', Below wr.heap.size wr w' → w'.cell? ⟨S + 1, k, none⟩ = some (.int .u64 y)) := ⟨fun w' hb' => by rw [← hy]; exact (qb1.keep hb').val (by rw [Lb.out]; omega)⟩
      have HL : Keep _ := ⟨hll⟩
      have HT : Keep _ := ⟨hset⟩
      have hnc0 : 0 ≤ nc ∧ nc ≤ 1 := hst.2.2.2
      clear hd hnc hx hy hst bx by' hnth hset hll hlo
      go_wp2
      refine wp_fam_all (by kernel_rfl) (by kernel_rfl) (fun I hI' fw hf hback => ?_)
      have c0 : ∀ j, (fw j).cell? ⟨S, k, none⟩ = some (.int .u64 x) := fun j => Q0.out _ (hf j)
      have c1 : ∀ j, (fw j).cell? ⟨S + 1, k, none⟩ = some (.int .u64 y) := fun j => Q1.out _ (hf j)
      repeat (go_big_quiet_step (fail))
      refine wpQuiet_nil ?_
      intro w6 hb6
      clear c0 c1 hf hback hadd
      have hA6 := qa1.keep hb6
      have hB6 := qb1.keep hb6
      have hO6 := qo1.keep hb6
      have hbb6 := hb1.trans (hb6.mono (HSS.out _ hb1))
      clear qa1 qb1 qo1 hb1 hb6
      have co := hA6.val (i := k) (by rw [HL.out]; exact hlt)
      have zo := hA6.frozen k
      have hA7 := hA6.set_ k (.int .u64 d)
      rw [vals_set, HT.out] at hA7
      have hB7 := hB6.far (p := ⟨S, k, none⟩) (by show S + 1 ≠ S; omega) (.int .u64 d)
      have hO7 := hO6.far (p := ⟨S, k, none⟩) (by show S + 2 ≠ S; omega) (.int .u64 d)
      have hb7 := hbb6.setCell (p := ⟨S, k, none⟩) (Nat.le_refl _) (.int .u64 d)
      clear hO6 hA6 hB6 hbb6
      go_wp2
      first
        | exact ⟨⟨k + 1, o ++ [d], nc, by omega, by go_num, rfl, hnc0.1, hnc0.2, HS, hA7, hB7, hO7, hb7⟩, by simp [intOf]; omega⟩
        | (go_roundw
           case rel => exact ⟨k + 1, o ++ [d], nc, by omega, by go_num, rfl, hnc0.1, hnc0.2, HS, hA7, hB7, hO7, hb7⟩
           case measure => simp [intOf]; omega)
    · obtain rfl : 4 = k := by omega
      have he := hI.out.2.2
      rw [low_num (by rw [La.out]; omega), low_num (by rw [Lb.out]; omega)] at he
      rw [List.drop_eq_nil_of_le (by rw [La.out]; omega), List.append_nil] at qa1
      have hp := RR_lt
      have na := num4 Va.out La.out
      have nb := num4 Vb.out Lb.out
      have no := num4 hI.out.1 hI.out.2.1
      have hab := HA.out
      have P1 : Keep (∀ y : World, _) := ⟨fun y => refLess_c o hI.out.2.1 hI.out.1 cy hc0 hc1 y⟩
      have hv : (if num o < RR ∧ cy = 0 then o else wd 4 (num o - RR)) = res := by
        rw [← HRES.out]
        rcases (show cy = 0 ∨ cy = 1 by omega) with h | h
        · subst h
          by_cases h2 : num o < RR
          · rw [if_pos ⟨h2, rfl⟩]
            exact fr_of no.1 h2 (by congr 1; omega) hI.out.2.1 hI.out.1 rfl
          · rw [if_neg (fun h => h2 h.1)]
            exact fr_of (x := num o - RR) (by omega) (by omega) (by rw [sub_mod]; congr 1; omega) (wd_len _ _) (wd_words _ _) (num_wd_of (by omega) (by omega))
        · subst h
          rw [if_neg (fun h => absurd h.2 (by decide))]
          have e1 : wd 4 (num o - RR) = wd 4 (num a + num b - RR) := wd_congr (by rw [show num a + num b - RR = num o - RR + wp 4 * 1 by omega, Int.add_mul_emod_self_left])
          rw [e1]
          exact fr_of (x := num a + num b - RR) (by omega) (by omega) (by rw [sub_mod]) (wd_len _ _) (wd_words _ _) (num_wd_of (by omega) (by omega))
      rw [hv] at P1
      have Lo : Keep (o.length = 4) := ⟨hI.out.2.1⟩
      clear he hp na nb no hab hv
      go_wp2_with (first
        | (refine store_abs2 (by rfl) 25 (.tmp 4) (.tmp 30) (by rfl) (by rfl) (S + 2) (vals .u64 res) (by rfl) (by rfl) 25 _ qo2 (by rw [vals_size, Lr.out]; kernel_rfl) (by first | rfl | (rw [vals_size, vals_size, Lr.out]; rfl) | rw [vals_size, vals_size, Lr.out, LZ.out]) vals_one ?_
           intro w3 qo3 hkeep hbg
           have qa3 := hkeep _ _ _ qa2 (by omega)
           have qb3 := hkeep _ _ _ qb2 (by omega)
           have hb3 := hb2.trans (hbg.mono (by omega))
           clear hkeep hbg hb2 qa2 qb2 qo2)
        | (go_at_call 38
           refine (P1.out _).mono ?_
           rintro e w2 ⟨rfl, hq⟩
           have qa2 := qa1.keep hq
           have qb2 := qb1.keep hq
           have qo2 := qo1.keep hq
           have hb2 := hb1.trans (hq.mono (HSS.out _ hb1))
           clear hq hb1 qa1 qb1 qo1)
        | (refine wpList_load_row rfl 25 (.tmp 2) rfl (S) rfl _ _ _ _ qa1.eq Try.underlying25 rfl (by rw [vals_size, Lo.out]; kernel_rfl) ?_))
      refine bodyPost_ret (v := .agg (vals .u64 res)) (results_cell_row rfl _ _ (S + 2) _ _ _ _ rfl qo3.eq Try.underlying25 rfl (by rw [vals_size, Lr.out]; kernel_rfl)) rfl ⟨rfl, hb3⟩

end Go.Proofs.Ythaoebamnlmfpaa.Fr
