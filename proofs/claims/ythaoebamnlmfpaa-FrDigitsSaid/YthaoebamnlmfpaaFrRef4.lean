/-
  Own text. The contracts of layer 6's reference: Mul.
-/
import Derived.Test.YthaoebamnlmfpaaFrRef3
import Derived.Test.YthaoebamnlmfpaaLimbRef5
import Derived.Test.YthaoebamnlmfpaaBits
namespace Go.Proofs.Ythaoebamnlmfpaa.Fr
set_option linter.unusedVariables false
set_option linter.unusedSimpArgs false
open Go Go.RowKit Go.Proofs.Ythaoebamnlmfpaa.Num Go.Proofs.Ythaoebamnlmfpaa.Reg Go.Proofs.Ythaoebamnlmfpaa.Base Go.Proofs.Ythaoebamnlmfpaa.Limb Go.Proofs.Ythaoebamnlmfpaa.Bits

set_option maxRecDepth 100000 in
set_option maxHeartbeats 2000000 in
theorem refMul_c4 (a : List Int) (hla : a.length = 4) (hwa : Words a) (b : List Int) (hlb : b.length = 4) (hwb : Words b) (w : World) : Calls Try.prog 21 #[.agg (vals .u64 a), .agg (vals .u64 b)] w fun e w' => e = .returned (.agg (vals .u64 (fr (num a * num b)))) ∧ Below w.heap.size w w' := by
  have P1 : Keep (∀ x : World, _) := ⟨fun x => refReduce_c a hla hwa x⟩
  have P2 : Keep (∀ x : World, _) := ⟨fun x => refReduce_c b hlb hwb x⟩
  obtain ⟨x, hx⟩ : ∃ o, fr (num a) = o := ⟨_, rfl⟩
  have Lx : Keep (x.length = 4) := ⟨by rw [← hx]; exact fr_len _⟩
  obtain ⟨y, hy⟩ : ∃ o, fr (num b) = o := ⟨_, rfl⟩
  have Ly : Keep (y.length = 4) := ⟨by rw [← hy]; exact fr_len _⟩
  obtain ⟨res, hres⟩ : ∃ o, fr (num a * num b) = o := ⟨_, rfl⟩
  have Lres : Keep (res.length = 4) := ⟨by rw [← hres]; exact fr_len _⟩
  have HX : Keep (Words x ∧ Words y ∧ num x < RR ∧ num x = num a % RR ∧ num y < wp 4 ∧ fr (num x * num y) = res) := ⟨by rw [← hx]; exact fr_words _, by rw [← hy]; exact fr_words _, by rw [← hx, num_fr]; exact (fr_mod _).2, by rw [← hx, num_fr], by rw [← hy, num_fr]; exact Int.lt_trans (fr_mod _).2 RR_lt.1, by rw [← hx, ← hy, fr_mull, fr_mulr]; exact hres⟩
  rw [hx] at P1
  rw [hy] at P2
  rw [hres]
  have La : Keep (a.length = 4) := ⟨hla⟩
  have Va : Keep (Words a) := ⟨hwa⟩
  have Lb : Keep (b.length = 4) := ⟨hlb⟩
  have Vb : Keep (Words b) := ⟨hwb⟩
  have LZ : Keep (Z4.length = 4) := ⟨rfl⟩
  have LM : Keep (mL.length = 4) := ⟨rfl⟩
  have HE0 : Keep (Z4 = fr (num x * (num y / tp 256))) := ⟨by
    have h := (num_bounds HX.out.2.1).1
    rw [show (256 : Nat) = 64 * 4 from rfl, tp_wp, Int.ediv_eq_zero_of_lt h HX.out.2.2.2.2.1, Int.mul_zero, fr_zero]⟩
  obtain ⟨S, hS⟩ : ∃ S, w.heap.size = S := ⟨_, rfl⟩
  have qa0 : Has (((w.alloc (.cells (vals .u64 a) 25)).alloc (.cells (vals .u64 b) 25)).alloc (.cells (vals .u64 Z4) 25)) (S) 25 (vals .u64 a) := by exact (((Has.new' _ hS.symm _ _).alloc _).alloc _)
  have qb0 : Has (((w.alloc (.cells (vals .u64 a) 25)).alloc (.cells (vals .u64 b) 25)).alloc (.cells (vals .u64 Z4) 25)) (S + 1) 25 (vals .u64 b) := by exact ((Has.new' _ (by simp only [World.size_alloc, hS]) _ _).alloc _)
  have qo0 : Has (((w.alloc (.cells (vals .u64 a) 25)).alloc (.cells (vals .u64 b) 25)).alloc (.cells (vals .u64 Z4) 25)) (S + 2) 25 (vals .u64 Z4) := by exact (Has.new' _ (by simp only [World.size_alloc, hS]) _ _)
  have hb0 : Below S w (((w.alloc (.cells (vals .u64 a) 25)).alloc (.cells (vals .u64 b) 25)).alloc (.cells (vals .u64 Z4) 25)) := by rw [← hS]; exact ((((Below.refl _ _).alloc (Nat.le_refl _) _).alloc (by simp <;> omega) _).alloc (by simp <;> omega) _)
  have hsz0 : (((w.alloc (.cells (vals .u64 a) 25)).alloc (.cells (vals .u64 b) 25)).alloc (.cells (vals .u64 Z4) 25)).heap.size = S + 3 := by simp only [World.size_alloc, hS]
  have HS0 : Keep (S ≤ w.heap.size) := ⟨by omega⟩
  have HSS : Keep (∀ x : World, Below S w x → S ≤ x.heap.size) := ⟨fun x hb => Nat.le_trans HS0.out hb.size⟩
  rw [hS]
  clear hx hy hres
  clear hla hwa hlb hwb
  go_enter Try.func21, Try.ntmps21
  go_wp2_with (first
    | (refine store_abs2 (by rfl) 25 (.tmp 6) (.tmp 12) (by rfl) (by rfl) (w3.heap.size) (vals .u64 y) (by rfl) (by rfl) 25 (vals .u64 Z4) (Has.new' _ rfl _ _) (by rw [vals_size, Ly.out]; kernel_rfl) (by first | rfl | (rw [vals_size, vals_size, Ly.out]; rfl)) vals_one ?_
       intro w4 qy4 hkeep hbg
       have hbe := ((Below.refl (w3).heap.size (w3)).alloc (Nat.le_refl _) (.cells (vals .u64 Z4) 25)).trans hbg
       have Nay : Keep (S < w3.heap.size) := ⟨qa3.lt⟩
       have Nby : Keep (S + 1 < w3.heap.size) := ⟨qb3.lt⟩
       have Noy : Keep (S + 2 < w3.heap.size) := ⟨qo3.lt⟩
       have Nxy : Keep (w1.heap.size < w3.heap.size) := ⟨qx3.lt⟩
       have My : Keep (S ≤ w3.heap.size) := ⟨HSS.out _ hb3⟩
       have qa4 := qa3.keep hbe
       have qb4 := qb3.keep hbe
       have qo4 := qo3.keep hbe
       have qx4 := qx3.keep hbe
       have hb4 := hb3.trans (hbe.mono (HSS.out _ hb3))
       clear hkeep hbg hbe hb3 qa3 qb3 qo3 qx3)
    | (have hq0 := hb2
       clear hq0
       go_at_call 15
       refine (P2.out _).mono ?_
       rintro e w3 ⟨rfl, hq⟩
       have qa3 := qa2.keep hq
       have qb3 := qb2.keep hq
       have qo3 := qo2.keep hq
       have qx3 := qx2.keep hq
       have hb3 := hb2.trans (hq.mono (HSS.out _ hb2))
       clear hq hb2 qa2 qb2 qo2 qx2)
    | (refine wpList_load_row rfl 25 (.tmp 3) rfl (S + 1) rfl _ _ _ _ qb2.eq Try.underlying25 rfl (by rw [vals_size, Lb.out]; kernel_rfl) ?_)
    | (refine store_abs2 (by rfl) 25 (.tmp 5) (.tmp 10) (by rfl) (by rfl) (w1.heap.size) (vals .u64 x) (by rfl) (by rfl) 25 (vals .u64 Z4) (Has.new' _ rfl _ _) (by rw [vals_size, Lx.out]; kernel_rfl) (by first | rfl | (rw [vals_size, vals_size, Lx.out]; rfl)) vals_one ?_
       intro w2 qx2 hkeep hbg
       have hbe := ((Below.refl (w1).heap.size (w1)).alloc (Nat.le_refl _) (.cells (vals .u64 Z4) 25)).trans hbg
       have Nax : Keep (S < w1.heap.size) := ⟨qa1.lt⟩
       have Nbx : Keep (S + 1 < w1.heap.size) := ⟨qb1.lt⟩
       have Nox : Keep (S + 2 < w1.heap.size) := ⟨qo1.lt⟩
       have Mx : Keep (S ≤ w1.heap.size) := ⟨HSS.out _ hb1⟩
       have qa2 := qa1.keep hbe
       have qb2 := qb1.keep hbe
       have qo2 := qo1.keep hbe
       have hb2 := hb1.trans (hbe.mono (HSS.out _ hb1))
       clear hkeep hbg hbe hb1 qa1 qb1 qo1)
    | (have hq0 := hb0
       clear hq0
       go_at_call 15
       refine (P1.out _).mono ?_
       rintro e w1 ⟨rfl, hq⟩
       have qa1 := qa0.keep hq
       have qb1 := qb0.keep hq
       have qo1 := qo0.keep hq
       have hb1 := hb0.trans (hq.mono (HSS.out _ hb0))
       clear hq hb0 qa0 qb0 qo0)
    | (refine wpList_load_row rfl 25 (.tmp 2) rfl (S) rfl _ _ _ _ qa0.eq Try.underlying25 rfl (by rw [vals_size, La.out]; kernel_rfl) ?_))
  have hal : Below w4.heap.size w4 (w4.alloc (.cells (vals .u64 Z4) 25)) := (Below.refl _ _).alloc (Nat.le_refl _) _
  have qa4' := qa4.keep hal
  have Nau : Keep (S < w4.heap.size) := ⟨qa4.lt⟩
  have qb4' := qb4.keep hal
  have Nbu : Keep (S + 1 < w4.heap.size) := ⟨qb4.lt⟩
  have qo4' := qo4.keep hal
  have Nou : Keep (S + 2 < w4.heap.size) := ⟨qo4.lt⟩
  have qx4' := qx4.keep hal
  have Nxu : Keep (w1.heap.size < w4.heap.size) := ⟨qx4.lt⟩
  have qy4' := qy4.keep hal
  have Nyu : Keep (w3.heap.size < w4.heap.size) := ⟨qy4.lt⟩
  have Mu : Keep (S ≤ w4.heap.size) := ⟨HSS.out _ hb4⟩
  have qu4' : Has (w4.alloc (.cells (vals .u64 Z4) 25)) w4.heap.size 25 (vals .u64 Z4) := Has.new _ _ _
  have hb4' := hb4.trans (hal.mono (HSS.out _ hb4))
  clear hal qa4 qb4 qo4 qx4 qy4 hb4
  have qu4' : Has (w4.alloc (.cells (vals .u64 Z4) 25)) (w4.heap.size) 25 (vals .u64 (fr (num x * (num y / tp 256)))) := by rw [← HE0.out]; exact qu4'
  go_loopg [8] 256 (fun (gk : Nat) vi w10 => gk ≤ 256 ∧ vi = .int .i64 ((gk : Int) - 1) ∧ Has w10 (S + 2) 25 (vals .u64 Z4) ∧ Has w10 (w1.heap.size) 25 (vals .u64 x) ∧ Has w10 (w3.heap.size) 25 (vals .u64 y) ∧ Has w10 (w4.heap.size) 25 (vals .u64 (fr (num x * (num y / tp gk)))) ∧ Below S w w10)
  case atStart => exact ⟨Nat.le_refl _, by go_num, qo4', qx4', qy4', qu4', hb4'⟩
  case round =>
    clear qa4' qb4' qo4' qx4' qy4' qu4' hb4'
    obtain ⟨hk, rfl, qo10, qx10, qy10, qu10, hb10⟩ := hrel
    rcases gk with _ | i
    · obtain ⟨o, ho⟩ : ∃ o, fr (num x * (num y / tp 0)) = o := ⟨_, rfl⟩
      have Lo : Keep (o.length = 4) := ⟨ho ▸ fr_len _⟩
      have FIN : Keep (o = res) := ⟨by rw [← ho, tp_zero, Int.ediv_one]; exact HX.out.2.2.2.2.2⟩
      rw [ho] at qu10
      clear ho
      go_wp2_with (first
        | (refine store_abs2 (by rfl) 25 (.tmp 4) (.tmp 33) (by rfl) (by rfl) (S + 2) (vals .u64 o) (by rfl) (by rfl) 25 _ qo10 (by rw [vals_size, Lo.out]; kernel_rfl) (by first | rfl | (rw [vals_size, vals_size, Lo.out]; rfl) | rw [vals_size, vals_size, Lo.out, LZ.out]) vals_one ?_
           intro w11 qo11 hkeep hbg
           have qx11 := hkeep _ _ _ qx10 (Nat.ne_of_gt Nox.out)
           have qy11 := hkeep _ _ _ qy10 (Nat.ne_of_gt Noy.out)
           have qu11 := hkeep _ _ _ qu10 (Nat.ne_of_gt Nou.out)
           have hb11 := hb10.trans (hbg.mono (by omega))
           clear hkeep hbg hb10 qo10 qx10 qy10 qu10)
        | (refine wpList_load_row rfl 25 (.tmp 7) rfl (w4.heap.size) rfl _ _ _ _ qu10.eq Try.underlying25 rfl (by rw [vals_size, Lo.out]; kernel_rfl) ?_))
      refine bodyPost_ret (v := .agg (vals .u64 o)) (results_cell_row rfl _ _ (S + 2) _ _ _ _ rfl qo11.eq Try.underlying25 rfl (by rw [vals_size, Lo.out]; kernel_rfl)) rfl ⟨ret_eq (by rw [FIN.out]), hb11⟩
    · have e1 : ((i + 1 : Nat) : Int) - 1 = (i : Int) := by omega
      rw [e1]
      clear e1
      obtain ⟨yv, hyv⟩ : ∃ v, nth y (i / 64) = v := ⟨_, rfl⟩
      have by' : 0 ≤ yv ∧ yv ≤ 18446744073709551615 := hyv ▸ HX.out.2.1 (i / 64)
      have hyb : bitL y i = yv / 2 ^ (i % 64) % 2 := by rw [bitL, hyv]; rfl
      have hsb := shr_bounds by'.1 by'.2 (i % 64)
      have hand := and_one hsb.1 hsb.2
      have hsn : 0 ≤ num y / tp (i + 1) := Int.ediv_nonneg (num_bounds HX.out.2.1).1 (Int.le_of_lt (tp_pos _))
      have hsh := num_shift (num y) i
      rw [num_bit HX.out.2.1, hyb] at hsh
      have HC : Keep (∀ w' : World, Has w' (w3.heap.size) 25 (vals .u64 y) → w'.cell? ⟨w3.heap.size, i / 64, none⟩ = some (.int .u64 yv)) := ⟨fun w' h => by rw [← hyv]; exact h.val (by rw [Ly.out]; omega)⟩
      obtain ⟨o, ho⟩ : ∃ o, fr (num x * (num y / tp (i + 1))) = o := ⟨_, rfl⟩
      have Lo : Keep (o.length = 4) := ⟨ho ▸ fr_len _⟩
      obtain ⟨o2, ho2⟩ : ∃ o2, fr (num o + num o) = o2 := ⟨_, rfl⟩
      have h2 : o2 = fr (num x * (2 * (num y / tp (i + 1)))) := by
        rw [← ho2, ← ho, fr_addl, fr_addr, ← Int.mul_add]
        congr 2
        omega
      have Lo2 : Keep (o2.length = 4) := ⟨ho2 ▸ fr_len _⟩
      have Q1 : Keep (∀ z : World, _) := ⟨fun z => refPlus_c o Lo.out (ho ▸ fr_words _) o Lo.out (ho ▸ fr_words _) (by rw [← ho, num_fr]; exact (fr_mod _).2) (by rw [← ho, num_fr]; exact (fr_mod _).2) z⟩
      rw [ho2] at Q1
      rw [ho] at qu10
      rcases (show yv / 2 ^ (i % 64) % 2 = 0 ∨ yv / 2 ^ (i % 64) % 2 = 1 by omega) with h3 | h3
      · have hbit : (bits .and .u64 (yv / 2 ^ (i % 64)) 1 == 1) = false := by rw [hand, h3]; rfl
        have FIN : Keep (o2 = fr (num x * (num y / tp i))) := ⟨by rw [h2, hsh, h3, Int.add_zero]⟩
        clear hyb hsb hand hsn hsh ho ho2 h2 h3 hyv
        go_wp2_with (first
          | (refine store_abs2 (by rfl) 25 (.tmp 7) (.tmp 19) (by rfl) (by rfl) (w4.heap.size) (vals .u64 o2) (by rfl) (by rfl) 25 _ qu11 (by rw [vals_size, Lo2.out]; kernel_rfl) (by first | rfl | (rw [vals_size, vals_size, Lo2.out]; rfl) | rw [vals_size, vals_size, Lo2.out, Lo.out]) vals_one ?_
             intro w12 qu12 hkeep hbg
             have qo12 := hkeep _ _ _ qo11 (Nat.ne_of_lt Nou.out)
             have qx12 := hkeep _ _ _ qx11 (Nat.ne_of_lt Nxu.out)
             have qy12 := hkeep _ _ _ qy11 (Nat.ne_of_lt Nyu.out)
             have hb12 := hb11.trans (hbg.mono Mu.out)
             clear hkeep hbg hb11 qo11 qx11 qy11 qu11
             have hcell := HC.out _ qy12
             rw [FIN.out] at qu12)
          | (have hq0 := hb10
             clear hq0
             go_at_call 39
             refine (Q1.out _).mono ?_
             rintro e w11 ⟨rfl, hq⟩
             have qo11 := qo10.keep hq
             have qx11 := qx10.keep hq
             have qy11 := qy10.keep hq
             have qu11 := qu10.keep hq
             have hb11 := hb10.trans (hq.mono (HSS.out _ hb10))
             clear hq hb10 qo10 qx10 qy10 qu10)
          | (refine wpList_load_row rfl 25 (.tmp 7) rfl (w4.heap.size) rfl _ _ _ _ qu10.eq Try.underlying25 rfl (by rw [vals_size, Lo.out]; kernel_rfl) ?_))
        go_roundg i
        case measure => omega
        case rel => exact ⟨by omega, rfl, qo12, qx12, qy12, qu12, hb12⟩
      · have hbit : (bits .and .u64 (yv / 2 ^ (i % 64)) 1 == 1) = true := by rw [hand, h3]; rfl
        obtain ⟨o3, ho3⟩ : ∃ o3, fr (num o2 + num x) = o3 := ⟨_, rfl⟩
        have FIN : Keep (o3 = fr (num x * (num y / tp i))) := ⟨by rw [← ho3, h2, fr_addl, hsh, h3, Int.mul_add, Int.mul_one]⟩
        have Lo3 : Keep (o3.length = 4) := ⟨ho3 ▸ fr_len _⟩
        have Q2 : Keep (∀ z : World, _) := ⟨fun z => refPlus_c o2 Lo2.out (ho2 ▸ fr_words _) x Lx.out HX.out.1 (by rw [← ho2, num_fr]; exact (fr_mod _).2) HX.out.2.2.1 z⟩
        rw [ho3] at Q2
        clear hyb hsb hand hsn hsh ho ho2 ho3 h2 h3 hyv
        go_wp2_with (first
          | (refine store_abs2 (by rfl) 25 (.tmp 7) (.tmp 32) (by rfl) (by rfl) (w4.heap.size) (vals .u64 o3) (by rfl) (by rfl) 25 _ qu13 (by rw [vals_size, Lo3.out]; kernel_rfl) (by first | rfl | (rw [vals_size, vals_size, Lo3.out]; rfl) | rw [vals_size, vals_size, Lo3.out, Lo2.out]) vals_one ?_
             intro w14 qu14 hkeep hbg
             have qo14 := hkeep _ _ _ qo13 (Nat.ne_of_lt Nou.out)
             have qx14 := hkeep _ _ _ qx13 (Nat.ne_of_lt Nxu.out)
             have qy14 := hkeep _ _ _ qy13 (Nat.ne_of_lt Nyu.out)
             have hb14 := hb13.trans (hbg.mono Mu.out)
             clear hkeep hbg hb13 qo13 qx13 qy13 qu13)
          | (have q1 := f1
             have hq0 := hb12
             clear hq0
             go_at_call 39
             refine (Q2.out _).mono ?_
             rintro e w13 ⟨rfl, hq⟩
             have qo13 := qo12.keep hq
             have qx13 := qx12.keep hq
             have qy13 := qy12.keep hq
             have qu13 := qu12.keep hq
             have hb13 := hb12.trans (hq.mono (HSS.out _ hb12))
             clear hq hb12 qo12 qx12 qy12 qu12)
          | (refine wpList_load_row rfl 25 (.tmp 5) rfl (w1.heap.size) rfl _ _ _ _ qx12.eq Try.underlying25 rfl (by rw [vals_size, Lx.out]; kernel_rfl) ?_)
          | (have q1 := f1
             refine wpList_load_row rfl 25 (.tmp 7) rfl (w4.heap.size) rfl _ _ _ _ qu12.eq Try.underlying25 rfl (by rw [vals_size, Lo2.out]; kernel_rfl) ?_)
          | (refine store_abs2 (by rfl) 25 (.tmp 7) (.tmp 19) (by rfl) (by rfl) (w4.heap.size) (vals .u64 o2) (by rfl) (by rfl) 25 _ qu11 (by rw [vals_size, Lo2.out]; kernel_rfl) (by first | rfl | (rw [vals_size, vals_size, Lo2.out]; rfl) | rw [vals_size, vals_size, Lo2.out, Lo.out]) vals_one ?_
             intro w12 qu12 hkeep hbg
             have qo12 := hkeep _ _ _ qo11 (Nat.ne_of_lt Nou.out)
             have qx12 := hkeep _ _ _ qx11 (Nat.ne_of_lt Nxu.out)
             have qy12 := hkeep _ _ _ qy11 (Nat.ne_of_lt Nyu.out)
             have hb12 := hb11.trans (hbg.mono Mu.out)
             clear hkeep hbg hb11 qo11 qx11 qy11 qu11
             have hcell := HC.out _ qy12
             have f1 := True.intro)
          | (have hq0 := hb10
             clear hq0
             go_at_call 39
             refine (Q1.out _).mono ?_
             rintro e w11 ⟨rfl, hq⟩
             have qo11 := qo10.keep hq
             have qx11 := qx10.keep hq
             have qy11 := qy10.keep hq
             have qu11 := qu10.keep hq
             have hb11 := hb10.trans (hq.mono (HSS.out _ hb10))
             clear hq hb10 qo10 qx10 qy10 qu10)
          | (refine wpList_load_row rfl 25 (.tmp 7) rfl (w4.heap.size) rfl _ _ _ _ qu10.eq Try.underlying25 rfl (by rw [vals_size, Lo.out]; kernel_rfl) ?_))
        rw [FIN.out] at qu14
        go_roundg i
        case measure => omega
        case rel => exact ⟨by omega, rfl, qo14, qx14, qy14, qu14, hb14⟩

end Go.Proofs.Ythaoebamnlmfpaa.Fr
