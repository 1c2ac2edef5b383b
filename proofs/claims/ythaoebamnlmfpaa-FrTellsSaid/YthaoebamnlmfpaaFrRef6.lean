/-
  Own text. The contracts of layer 6's reference: Inv.
-/
import Derived.Test.YthaoebamnlmfpaaFrRef5
namespace Go.Proofs.Ythaoebamnlmfpaa.Fr
set_option linter.unusedVariables false
set_option linter.unusedSimpArgs false
open Go Go.RowKit Go.Proofs.Ythaoebamnlmfpaa.Num Go.Proofs.Ythaoebamnlmfpaa.Reg Go.Proofs.Ythaoebamnlmfpaa.Base Go.Proofs.Ythaoebamnlmfpaa.Limb Go.Proofs.Ythaoebamnlmfpaa.Bits

set_option maxRecDepth 100000 in
set_option maxHeartbeats 2000000 in
theorem refInv_c4 (a : List Int) (hla : a.length = 4) (hwa : Words a) (w : World) : Calls Try.prog 23 #[.agg (vals .u64 a)] w fun e w' => e = .returned (.agg (vals .u64 (fr (pw (num a) (RR - 2))))) ∧ Below w.heap.size w w' := by
  obtain ⟨res, hres⟩ : ∃ o, fr (pw (num a) (RR - 2)) = o := ⟨_, rfl⟩
  have Lres : Keep (res.length = 4) := ⟨by rw [← hres]; exact fr_len _⟩
  have HF : Keep (fr (pw (num a) (num eL)) = res) := ⟨by rw [eL_num]; exact hres⟩
  rw [hres]
  clear hres
  have La : Keep (a.length = 4) := ⟨hla⟩
  have Va : Keep (Words a) := ⟨hwa⟩
  have LZ : Keep (Z4.length = 4) := ⟨rfl⟩
  have LM : Keep (mL.length = 4) := ⟨rfl⟩
  have LE : Keep (eL.length = 4) := ⟨rfl⟩
  have L1 : Keep (([1, 0, 0, 0] : List Int).length = 4) := ⟨rfl⟩
  have HE0 : Keep ([1, 0, 0, 0] = fr (pw (num a) (num eL / tp 256))) := ⟨by
    rw [show num eL / tp 256 = 0 by decide +kernel, pw_zero, fr_one]⟩
  have P2 : Keep (∀ (y : World) (A : Option Addr) (c g : Nat), Rd y y.heap.size A 4 .u64 mL → Has y g 23 (vals .u64 [2]) → Calls Try.prog 40 #[.slice A 4 c, .slice (some ⟨g, 0, none⟩) 1 1] y fun e y' => ∃ A'' c'', e = .returned (.tuple #[.slice A'' 4 c'', .int .u64 (subC mL [2])]) ∧ Own y' y.heap.size 23 .u64 A'' 4 c'' eL ∧ Below y.heap.size y y') := ⟨fun y A c g h h' => by
    have h1 := refSub_c A 4 c mL (some ⟨g, 0, none⟩) 1 1 [2] y.heap.size y h mL_words (Rd.of_has h' h'.lt (by rfl) (by decide)) (words_of _ (by decide)) (Nat.le_refl _) (by omega) (by omega)
    rw [sub_eL] at h1
    exact h1⟩
  obtain ⟨S, hS⟩ : ∃ S, w.heap.size = S := ⟨_, rfl⟩
  have qa0 : Has ((w.alloc (.cells (vals .u64 a) 25)).alloc (.cells (vals .u64 Z4) 25)) (S) 25 (vals .u64 a) := by exact ((Has.new' _ hS.symm _ _).alloc _)
  have qo0 : Has ((w.alloc (.cells (vals .u64 a) 25)).alloc (.cells (vals .u64 Z4) 25)) (S + 1) 25 (vals .u64 Z4) := by exact (Has.new' _ (by simp only [World.size_alloc, hS]) _ _)
  have hb0 : Below S w ((w.alloc (.cells (vals .u64 a) 25)).alloc (.cells (vals .u64 Z4) 25)) := by rw [← hS]; exact (((Below.refl _ _).alloc (Nat.le_refl _) _).alloc (by simp <;> omega) _)
  have hsz0 : ((w.alloc (.cells (vals .u64 a) 25)).alloc (.cells (vals .u64 Z4) 25)).heap.size = S + 2 := by simp only [World.size_alloc, hS]
  have HS0 : Keep (S ≤ w.heap.size) := ⟨by omega⟩
  have HSS : Keep (∀ x : World, Below S w x → S ≤ x.heap.size) := ⟨fun x hb => Nat.le_trans HS0.out hb.size⟩
  rw [hS]
  clear hla hwa
  go_enter Try.func23, Try.ntmps23
  go_wp2_with (first
    | (refine store_abs2 (by rfl) 25 (.tmp 5) (.tmp 13) (by rfl) (by rfl) (w2.heap.size) (vals .u64 [1, 0, 0, 0]) (by rfl) (by rfl) 25 (vals .u64 Z4) (Has.new' _ rfl _ _) (by rw [vals_size, L1.out]; kernel_rfl) (by first | rfl | (rw [vals_size, vals_size, L1.out]; rfl)) vals_one ?_
       intro w3 qu3 hkeep hbg
       have hbe := ((Below.refl (w2).heap.size (w2)).alloc (Nat.le_refl _) (.cells (vals .u64 Z4) 25)).trans hbg
       have Nau : Keep (S < w2.heap.size) := ⟨qa2.lt⟩
       have Nou : Keep (S + 1 < w2.heap.size) := ⟨qo2.lt⟩
       have Mu : Keep (S ≤ w2.heap.size) := ⟨HSS.out _ hb2⟩
       have qa3 := qa2.keep hbe
       have qo3 := qo2.keep hbe
       have xe3 := rd_here xe2 hbe
       have hb3 := hb2.trans (hbe.mono (HSS.out _ hb2))
       have ye3 := xe2.keep hbe (Nat.le_refl _); clear hkeep hbg hbe hb2 qa2 qo2 xe2)
    | (refine wpList_buildTo (by rfl) 25 #[(0, .const (.int .u64 1))] (by rfl) (some 13) (by rfl) (vals .u64 [1, 0, 0, 0]) (by kernel_rfl) ?_)
    | (have hq0 := hb1
       clear hq0
       go_at_call 40
       have hal := (Below.refl w1.heap.size w1).alloc (Nat.le_refl _) (.cells (vals .u64 [2]) 23)
       refine (P2.out _ _ _ w1.heap.size (rd_here xm1 hal) (Has.new _ _ _)).mono ?_
       rintro e w2 ⟨A3, c3, rfl, ho, hq⟩
       have hbe := hal.trans (hq.mono hal.size)
       have xe2 := ho.rd
       have qa2 := qa1.keep hbe
       have qo2 := qo1.keep hbe
       have hb2 := hb1.trans (hbe.mono (HSS.out _ hb1))
       clear hal hq hbe ho hb1 qa1 qo1 xm1)
    | (have hq0 := hb0
       clear hq0
       go_at_call 42
       refine (refR1_c _).mono ?_
       rintro e w1 ⟨A1, c1, rfl, ho1, hq⟩
       have qa1 := qa0.keep hq
       have qo1 := qo0.keep hq
       have hb1 := hb0.trans (hq.mono (HSS.out _ hb0))
       have xm1 := ho1.rd
       clear ho1
       clear hq hb0 qa0 qo0))
  rw [HE0.out] at qu3
  obtain ⟨b1, o1, rfl, hlt1, -⟩ := ye3.at_ (by omega)
  go_loopg [6] 256 (fun (gk : Nat) vi w10 => gk ≤ 256 ∧ vi = .int .i64 ((gk : Int) - 1) ∧ Has w10 S 25 (vals .u64 a) ∧ Has w10 (S + 1) 25 (vals .u64 Z4) ∧ Has w10 (w2.heap.size) 25 (vals .u64 (fr (pw (num a) (num eL / tp gk)))) ∧ Rd w10 (w2.heap.size) (some ⟨b1, o1, none⟩) 4 .u64 eL ∧ Below S w w10)
  case atStart => exact ⟨Nat.le_refl _, by go_num, qa3, qo3, qu3, ye3, hb3⟩
  case round =>
    clear qa3 qo3 qu3 ye3 hb3 xe3
    obtain ⟨hk, rfl, qa10, qo10, qu10, ye10, hb10⟩ := hrel
    rcases gk with _ | i
    · obtain ⟨o, ho⟩ : ∃ o, fr (pw (num a) (num eL / tp 0)) = o := ⟨_, rfl⟩
      have Lo : Keep (o.length = 4) := ⟨ho ▸ fr_len _⟩
      have FIN : Keep (o = res) := ⟨by rw [← ho, tp_zero, Int.ediv_one]; exact HF.out⟩
      rw [ho] at qu10
      clear ho ye10
      go_wp2_with (first
        | (refine store_abs2 (by rfl) 25 (.tmp 2) (.tmp 35) (by rfl) (by rfl) (S + 1) (vals .u64 o) (by rfl) (by rfl) 25 _ qo10 (by rw [vals_size, Lo.out]; kernel_rfl) (by first | rfl | (rw [vals_size, vals_size, Lo.out]; rfl) | rw [vals_size, vals_size, Lo.out, LZ.out]) vals_one ?_
           intro w11 qo11 hkeep hbg
           have qa11 := hkeep _ _ _ qa10 (by omega)
           have qu11 := hkeep _ _ _ qu10 (Nat.ne_of_gt Nou.out)
           have hb11 := hb10.trans (hbg.mono (by omega))
           clear hkeep hbg hb10 qa10 qo10 qu10)
        | (refine wpList_load_row rfl 25 (.tmp 5) rfl (w2.heap.size) rfl _ _ _ _ qu10.eq Try.underlying25 rfl (by rw [vals_size, Lo.out]; kernel_rfl) ?_))
      refine bodyPost_ret (v := .agg (vals .u64 o)) (results_cell_row rfl _ _ (S + 1) _ _ _ _ rfl qo11.eq Try.underlying25 rfl (by rw [vals_size, Lo.out]; kernel_rfl)) rfl ⟨ret_eq (by rw [FIN.out]), hb11⟩
    · have e1 : ((i + 1 : Nat) : Int) - 1 = (i : Int) := by omega
      rw [e1]
      clear e1
      obtain ⟨yv, hyv⟩ : ∃ v, nth eL (i / 64) = v := ⟨_, rfl⟩
      have by' : 0 ≤ yv ∧ yv ≤ 18446744073709551615 := hyv ▸ eL_words (i / 64)
      have hyb : bitL eL i = yv / 2 ^ (i % 64) % 2 := by rw [bitL, hyv]; rfl
      have hsb := shr_bounds by'.1 by'.2 (i % 64)
      have hand := and_one hsb.1 hsb.2
      have hsn : 0 ≤ num eL / tp (i + 1) := Int.ediv_nonneg (num_bounds eL_words).1 (Int.le_of_lt (tp_pos _))
      have hsh := num_shift (num eL) i
      rw [num_bit eL_words, hyb] at hsh
      have HC : Keep (∀ w' : World, Rd w' (w2.heap.size) (some ⟨b1, o1, none⟩) 4 .u64 eL → w'.cell? ⟨b1, o1 + i / 64, none⟩ = some (.int .u64 yv)) := ⟨fun w' h => by
        obtain ⟨b2, o2, hA, _, hc⟩ := h.at_ (by omega)
        cases hA
        rw [hc _ (by omega), hyv]⟩
      obtain ⟨o, ho⟩ : ∃ o, fr (pw (num a) (num eL / tp (i + 1))) = o := ⟨_, rfl⟩
      have Lo : Keep (o.length = 4) := ⟨ho ▸ fr_len _⟩
      obtain ⟨o2, ho2⟩ : ∃ o2, fr (num o * num o) = o2 := ⟨_, rfl⟩
      have h2 : o2 = fr (pw (num a) (2 * (num eL / tp (i + 1)))) := by
        rw [← ho2, ← ho, fr_mull, fr_mulr, ← pw_add hsn hsn]
        congr 2
        omega
      have Lo2 : Keep (o2.length = 4) := ⟨ho2 ▸ fr_len _⟩
      have Q1 : Keep (∀ z : World, _) := ⟨fun z => refMul_c4 o Lo.out (ho ▸ fr_words _) o Lo.out (ho ▸ fr_words _) z⟩
      rw [ho2] at Q1
      rw [ho] at qu10
      rcases (show yv / 2 ^ (i % 64) % 2 = 0 ∨ yv / 2 ^ (i % 64) % 2 = 1 by omega) with h3 | h3
      · have hbit : (bits .and .u64 (yv / 2 ^ (i % 64)) 1 == 1) = false := by rw [hand, h3]; rfl
        have FIN : Keep (o2 = fr (pw (num a) (num eL / tp i))) := ⟨by rw [h2, hsh, h3, Int.add_zero]⟩
        clear hyb hsb hand hsn hsh ho ho2 h2 h3 hyv
        go_wp2_with (first
          | (refine store_abs2 (by rfl) 25 (.tmp 5) (.tmp 20) (by rfl) (by rfl) (w2.heap.size) (vals .u64 o2) (by rfl) (by rfl) 25 _ qu11 (by rw [vals_size, Lo2.out]; kernel_rfl) (by first | rfl | (rw [vals_size, vals_size, Lo2.out]; rfl) | rw [vals_size, vals_size, Lo2.out, Lo.out]) vals_one ?_
             intro w12 qu12 hkeep hbg
             have qa12 := hkeep _ _ _ qa11 (Nat.ne_of_lt Nau.out)
             have qo12 := hkeep _ _ _ qo11 (Nat.ne_of_lt Nou.out)
             have ye12 := ye11.keepB hbg
             have hb12 := hb11.trans (hbg.mono Mu.out)
             clear hkeep hbg hb11 qa11 qo11 qu11 ye11
             have hcell := HC.out _ ye12
             rw [FIN.out] at qu12)
          | (have hq0 := hb10
             clear hq0
             go_at_call 21
             refine (Q1.out _).mono ?_
             rintro e w11 ⟨rfl, hq⟩
             have qa11 := qa10.keep hq
             have qo11 := qo10.keep hq
             have qu11 := qu10.keep hq
             have ye11 := ye10.keepB (hq.mono (Nat.le_of_lt qu10.lt))
             have hb11 := hb10.trans (hq.mono (HSS.out _ hb10))
             clear hq hb10 qa10 qo10 qu10 ye10)
          | (refine wpList_load_row rfl 25 (.tmp 5) rfl (w2.heap.size) rfl _ _ _ _ qu10.eq Try.underlying25 rfl (by rw [vals_size, Lo.out]; kernel_rfl) ?_))
        go_roundg i
        case measure => omega
        case rel => exact ⟨by omega, rfl, qa12, qo12, qu12, ye12, hb12⟩
      · have hbit : (bits .and .u64 (yv / 2 ^ (i % 64)) 1 == 1) = true := by rw [hand, h3]; rfl
        obtain ⟨o3, ho3⟩ : ∃ o3, fr (num o2 * num a) = o3 := ⟨_, rfl⟩
        have FIN : Keep (o3 = fr (pw (num a) (num eL / tp i))) := ⟨by rw [← ho3, h2, fr_mull, hsh, h3, pw_add (by omega) (by omega), pw_one]⟩
        have Lo3 : Keep (o3.length = 4) := ⟨ho3 ▸ fr_len _⟩
        have Q2 : Keep (∀ z : World, _) := ⟨fun z => refMul_c4 o2 Lo2.out (ho2 ▸ fr_words _) a La.out Va.out z⟩
        rw [ho3] at Q2
        clear hyb hsb hand hsn hsh ho ho2 ho3 h2 h3 hyv
        go_wp2_with (first
          | (refine store_abs2 (by rfl) 25 (.tmp 5) (.tmp 34) (by rfl) (by rfl) (w2.heap.size) (vals .u64 o3) (by rfl) (by rfl) 25 _ qu13 (by rw [vals_size, Lo3.out]; kernel_rfl) (by first | rfl | (rw [vals_size, vals_size, Lo3.out]; rfl) | rw [vals_size, vals_size, Lo3.out, Lo2.out]) vals_one ?_
             intro w14 qu14 hkeep hbg
             have qa14 := hkeep _ _ _ qa13 (Nat.ne_of_lt Nau.out)
             have qo14 := hkeep _ _ _ qo13 (Nat.ne_of_lt Nou.out)
             have ye14 := ye13.keepB hbg
             have hb14 := hb13.trans (hbg.mono Mu.out)
             clear hkeep hbg hb13 qa13 qo13 qu13 ye13)
          | (have q1 := f1
             have hq0 := hb12
             clear hq0
             go_at_call 21
             refine (Q2.out _).mono ?_
             rintro e w13 ⟨rfl, hq⟩
             have qa13 := qa12.keep hq
             have qo13 := qo12.keep hq
             have qu13 := qu12.keep hq
             have ye13 := ye12.keepB (hq.mono (Nat.le_of_lt qu12.lt))
             have hb13 := hb12.trans (hq.mono (HSS.out _ hb12))
             clear hq hb12 qa12 qo12 qu12 ye12)
          | (refine wpList_load_row rfl 25 (.tmp 1) rfl (S) rfl _ _ _ _ qa12.eq Try.underlying25 rfl (by rw [vals_size, La.out]; kernel_rfl) ?_)
          | (have q1 := f1
             refine wpList_load_row rfl 25 (.tmp 5) rfl (w2.heap.size) rfl _ _ _ _ qu12.eq Try.underlying25 rfl (by rw [vals_size, Lo2.out]; kernel_rfl) ?_)
          | (refine store_abs2 (by rfl) 25 (.tmp 5) (.tmp 20) (by rfl) (by rfl) (w2.heap.size) (vals .u64 o2) (by rfl) (by rfl) 25 _ qu11 (by rw [vals_size, Lo2.out]; kernel_rfl) (by first | rfl | (rw [vals_size, vals_size, Lo2.out]; rfl) | rw [vals_size, vals_size, Lo2.out, Lo.out]) vals_one ?_
             intro w12 qu12 hkeep hbg
             have qa12 := hkeep _ _ _ qa11 (Nat.ne_of_lt Nau.out)
             have qo12 := hkeep _ _ _ qo11 (Nat.ne_of_lt Nou.out)
             have ye12 := ye11.keepB hbg
             have hb12 := hb11.trans (hbg.mono Mu.out)
             clear hkeep hbg hb11 qa11 qo11 qu11 ye11
             have hcell := HC.out _ ye12
             have f1 := True.intro)
          | (have hq0 := hb10
             clear hq0
             go_at_call 21
             refine (Q1.out _).mono ?_
             rintro e w11 ⟨rfl, hq⟩
             have qa11 := qa10.keep hq
             have qo11 := qo10.keep hq
             have qu11 := qu10.keep hq
             have ye11 := ye10.keepB (hq.mono (Nat.le_of_lt qu10.lt))
             have hb11 := hb10.trans (hq.mono (HSS.out _ hb10))
             clear hq hb10 qa10 qo10 qu10 ye10)
          | (refine wpList_load_row rfl 25 (.tmp 5) rfl (w2.heap.size) rfl _ _ _ _ qu10.eq Try.underlying25 rfl (by rw [vals_size, Lo.out]; kernel_rfl) ?_))
        rw [FIN.out] at qu14
        go_roundg i
        case measure => omega
        case rel => exact ⟨by omega, rfl, qa14, qo14, qu14, ye14, hb14⟩

end Go.Proofs.Ythaoebamnlmfpaa.Fr
