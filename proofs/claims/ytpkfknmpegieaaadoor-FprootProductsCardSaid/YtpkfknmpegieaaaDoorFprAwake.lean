/-
  Own text. The head of layer 5's statements.
-/
import Derived.Test.YtpkfknmpegieaaaDoorFprOwn2
import Derived.Test.YtpkfknmpegieaaaDoorMFprM
namespace Go.Proofs.YtpkfknmpegieaaaDoor.Fpr
set_option linter.unusedVariables false
set_option linter.unusedSimpArgs false
open Go Go.RowKit Go.Proofs.YtpkfknmpegieaaaDoor.Reg Go.Proofs.YtpkfknmpegieaaaDoor.Base Go.Proofs.YtpkfknmpegieaaaDoor.Limb Go.Proofs.YtpkfknmpegieaaaDoor.Bits Go.Proofs.YtpkfknmpegieaaaDoor.Fp

set_option maxRecDepth 100000 in
set_option maxHeartbeats 4000000 in
theorem awake_c (w : World) (hG : Glob w) : Calls Tryd.prog 43 #[] w fun e w' => e = .returned (.bool true) ∧ Below w.heap.size w w' := by
  have S1 : Keep (∀ x : World, Glob x → _) := ⟨fun x (hG : Glob x) => sqrt_c [4, 0, 0, 0, 0, 0] rfl w4 x hG⟩
  rw [if_pos aw_four.1, aw_four.1, aw_four.2] at S1
  have S2 : Keep (∀ x : World, Glob x → _) := ⟨fun x (hG : Glob x) => sqrt_c (fe (-(num [1, 0, 0, 0, 0, 0]))) (fe_len _) (fe_words _) x hG⟩
  rw [aw_minus] at S2
  have S3 : Keep (∀ x : World, Glob x → _) := ⟨fun x (hG : Glob x) => sqrt_c Z6 rfl wZ x hG⟩
  rw [if_pos aw_zero.1, aw_zero.1, aw_zero.2] at S3
  rw [if_neg (by decide)] at S2
  have S4 : Keep (∀ x : World, Glob x → _) := ⟨fun x (hG : Glob x) => sign_c [3, 0, 0, 0, 0, 0] rfl w3 x hG⟩
  rw [aw_rest.1] at S4
  have S5 : Keep (∀ x : World, Glob x → _) := ⟨fun x (hG : Glob x) => bigger_c [1, 0, 0, 0, 0, 0] rfl w1 x hG⟩
  rw [aw_rest.2.1] at S5
  have S6 : Keep (∀ x : World, Glob x → _) := ⟨fun x (hG : Glob x) => bigger_c (fe (-(num [1, 0, 0, 0, 0, 0]))) (fe_len _) (fe_words _) x hG⟩
  rw [aw_rest.2.2] at S6
  have N1 : Keep (∀ x : World, Glob x → _) := ⟨fun x (hG : Glob x) => fpNeg_c [1, 0, 0, 0, 0, 0] rfl w1 x hG⟩
  obtain ⟨m, hm⟩ : ∃ o, fe (-(num [1, 0, 0, 0, 0, 0])) = o := ⟨_, rfl⟩
  rw [hm] at S2 S6 N1
  clear hm
  have L2 : Keep (([2, 0, 0, 0, 0, 0] : List Int).length = 6) := ⟨rfl⟩
  have Lo : Keep (Z6.length = 6) := ⟨rfl⟩
  have E1 := eq6 [2, 0, 0, 0, 0, 0] rfl
  have E2 := eq6 Z6 rfl
  have hgd := gd6
  obtain ⟨S, hS⟩ : ∃ S, w.heap.size = S := ⟨_, rfl⟩
  have hsz0 : w.heap.size = S + 0 := hS
  have hb0 : Below S w w := Below.refl _ _
  have HSS : Keep (∀ x : World, Below S w x → S ≤ x.heap.size) := ⟨fun x hb => by have := hb.size; omega⟩
  have HG : Keep (∀ x : World, Below S w x → Glob x) := ⟨fun x hb => hG.keep (by rw [hS]; exact hb)⟩
  rw [hS]
  clear hG
  go_enter Tryd.func43, Tryd.ntmps43
  go_wp2_with (first
    | (go_at_call 50
       refine (S6.out _ (HG.out _ hb10)).mono ?_
       rintro e w11 ⟨rfl, hq⟩
       have qa11 := qa10.keep hq
       have qb11 := qb10.keep hq
       have qc11 := qc10.keep hq
       have hb11 := hb10.trans (hq.mono (HSS.out _ hb10))
       clear hq hb10 qa10 qb10 qc10)
    | (go_at_call 27
       refine (N1.out _ (HG.out _ hb9)).mono ?_
       rintro e w10 ⟨rfl, hq⟩
       have qa10 := qa9.keep hq
       have qb10 := qb9.keep hq
       have qc10 := qc9.keep hq
       have hb10 := hb9.trans (hq.mono (HSS.out _ hb9))
       clear hq hb9 qa9 qb9 qc9)
    | (refine wpList_free (by rfl) ?_; refine wpList_buildTo (by rfl) 25 #[(0, .const (.int .u64 1))] (by rfl) (some 52) (by rfl) (vals .u64 [1, 0, 0, 0, 0, 0]) (by kernel_rfl) ?_)
    | (go_at_call 50
       refine (S5.out _ (HG.out _ hb8)).mono ?_
       rintro e w9 ⟨rfl, hq⟩
       have qa9 := qa8.keep hq
       have qb9 := qb8.keep hq
       have qc9 := qc8.keep hq
       have hb9 := hb8.trans (hq.mono (HSS.out _ hb8))
       clear hq hb8 qa8 qb8 qc8)
    | (refine wpList_free (by rfl) ?_; refine wpList_buildTo (by rfl) 25 #[(0, .const (.int .u64 1))] (by rfl) (some 47) (by rfl) (vals .u64 [1, 0, 0, 0, 0, 0]) (by kernel_rfl) ?_)
    | (go_at_call 48
       refine (S4.out _ (HG.out _ hb7)).mono ?_
       rintro e w8 ⟨rfl, hq⟩
       have qa8 := qa7.keep hq
       have qb8 := qb7.keep hq
       have qc8 := qc7.keep hq
       have hb8 := hb7.trans (hq.mono (HSS.out _ hb7))
       clear hq hb7 qa7 qb7 qc7)
    | (refine wpList_free (by rfl) ?_; refine wpList_buildTo (by rfl) 25 #[(0, .const (.int .u64 3))] (by rfl) (some 42) (by rfl) (vals .u64 [3, 0, 0, 0, 0, 0]) (by kernel_rfl) ?_)
    | (refine wpList_free (by rfl) ?_; refine wpList_buildTo (by rfl) 25 #[] (by rfl) (some 35) (by rfl) (vals .u64 Z6) (by kernel_rfl) ?_)
    | (refine wpList_free (by rfl) ?_; refine wpList_load_row rfl 25 (.tmp 5) rfl (w6.heap.size) rfl _ _ _ _ qc7.eq Tryd.underlying25 rfl (by rw [vals_size, Lo.out]; kernel_rfl) ?_)
    | (refine wpList_buildTo (by rfl) 25 #[(0, .const (.int .u64 2))] (by rfl) (some 24) (by rfl) (vals .u64 [2, 0, 0, 0, 0, 0]) (by kernel_rfl) ?_)
    | (refine wpList_load_row rfl 25 (.tmp 1) rfl (w1.heap.size) rfl _ _ _ _ qa7.eq Tryd.underlying25 rfl (by rw [vals_size, L2.out]; kernel_rfl) ?_)
    | (refine store_abs2 (by rfl) 25 (.tmp 5) (.tmp 21) (by rfl) (by rfl) (w6.heap.size) (vals .u64 Z6) (by rfl) (by rfl) 25 (vals .u64 Z6) (Has.new' _ rfl _ _) (by rw [vals_size, Lo.out]; kernel_rfl) (by first | rfl | (rw [vals_size, vals_size, Lo.out]; rfl)) vals_one ?_
       intro w7 qc7 hkeep hbg
       have hbe := ((Below.refl (w6).heap.size (w6)).alloc (Nat.le_refl _) (.cells (vals .u64 Z6) 25)).trans hbg
       have Nac : Keep (w1.heap.size < w6.heap.size) := ⟨qa6.lt⟩
       have Nbc : Keep (w4.heap.size < w6.heap.size) := ⟨qb6.lt⟩
       have Mc : Keep (S ≤ w6.heap.size) := ⟨HSS.out _ hb6⟩
       have qa7 := qa6.keep hbe
       have qb7 := qb6.keep hbe
       have hb7 := hb6.trans (hbe.mono (HSS.out _ hb6))
       clear hkeep hbg hbe hb6 qa6 qb6)
    | (go_at_call 44
       refine (S3.out _ (HG.out _ hb5)).mono ?_
       rintro e w6 ⟨rfl, hq⟩
       have qa6 := qa5.keep hq
       have qb6 := qb5.keep hq
       have hb6 := hb5.trans (hq.mono (HSS.out _ hb5))
       clear hq hb5 qa5 qb5)
    | (refine wpList_buildTo (by rfl) 25 #[] (by rfl) (some 19) (by rfl) (vals .u64 Z6) (by kernel_rfl) ?_)
    | (refine store_abs2 (by rfl) 25 (.tmp 3) (.tmp 16) (by rfl) (by rfl) (w4.heap.size) (vals .u64 Z6) (by rfl) (by rfl) 25 (vals .u64 Z6) (Has.new' _ rfl _ _) (by rw [vals_size, Lo.out]; kernel_rfl) (by first | rfl | (rw [vals_size, vals_size, Lo.out]; rfl)) vals_one ?_
       intro w5 qb5 hkeep hbg
       have hbe := ((Below.refl (w4).heap.size (w4)).alloc (Nat.le_refl _) (.cells (vals .u64 Z6) 25)).trans hbg
       have Nab : Keep (w1.heap.size < w4.heap.size) := ⟨qa4.lt⟩
       have Mb : Keep (S ≤ w4.heap.size) := ⟨HSS.out _ hb4⟩
       have qa5 := qa4.keep hbe
       have hb5 := hb4.trans (hbe.mono (HSS.out _ hb4))
       clear hkeep hbg hbe hb4 qa4)
    | (go_at_call 44
       refine (S2.out _ (HG.out _ hb3)).mono ?_
       rintro e w4 ⟨rfl, hq⟩
       have qa4 := qa3.keep hq
       have hb4 := hb3.trans (hq.mono (HSS.out _ hb3))
       clear hq hb3 qa3)
    | (go_at_call 27
       refine (N1.out _ (HG.out _ hb2)).mono ?_
       rintro e w3 ⟨rfl, hq⟩
       have qa3 := qa2.keep hq
       have hb3 := hb2.trans (hq.mono (HSS.out _ hb2))
       clear hq hb2 qa2)
    | (refine wpList_buildTo (by rfl) 25 #[(0, .const (.int .u64 1))] (by rfl) (some 13) (by rfl) (vals .u64 [1, 0, 0, 0, 0, 0]) (by kernel_rfl) ?_)
    | (refine store_abs2 (by rfl) 25 (.tmp 1) (.tmp 10) (by rfl) (by rfl) (w1.heap.size) (vals .u64 [2, 0, 0, 0, 0, 0]) (by rfl) (by rfl) 25 (vals .u64 Z6) (Has.new' _ rfl _ _) (by rw [vals_size, L2.out]; kernel_rfl) (by first | rfl | (rw [vals_size, vals_size, L2.out]; rfl)) vals_one ?_
       intro w2 qa2 hkeep hbg
       have hbe := ((Below.refl (w1).heap.size (w1)).alloc (Nat.le_refl _) (.cells (vals .u64 Z6) 25)).trans hbg
       have Ma : Keep (S ≤ w1.heap.size) := ⟨HSS.out _ hb1⟩
       have hb2 := hb1.trans (hbe.mono (HSS.out _ hb1))
       clear hkeep hbg hbe hb1 )
    | (go_at_call 44
       refine (S1.out _ (HG.out _ hb0)).mono ?_
       rintro e w1 ⟨rfl, hq⟩
       have hb1 := hb0.trans (hq.mono (HSS.out _ hb0))
       clear hq hb0 )
    | (refine wpList_buildTo (by rfl) 25 #[(0, .const (.int .u64 4))] (by rfl) (some 8) (by rfl) (vals .u64 [4, 0, 0, 0, 0, 0]) (by kernel_rfl) ?_))
  go_ret
  exact ⟨rfl, hb11⟩

end Go.Proofs.YtpkfknmpegieaaaDoor.Fpr
