/-
  Own text. The head of layer 4's statements.
-/
import Derived.Test.YtpkfknmpegieaaaDoorMFpN
import Derived.Test.YtpkfknmpegieaaaDoorFpW19
import Derived.Test.YtpkfknmpegieaaaDoorFpW9
namespace Go.Proofs.YtpkfknmpegieaaaDoor.Fp
set_option linter.unusedVariables false
set_option linter.unusedSimpArgs false
open Go Go.RowKit Go.Proofs.YtpkfknmpegieaaaDoor.Reg Go.Proofs.YtpkfknmpegieaaaDoor.Base Go.Proofs.YtpkfknmpegieaaaDoor.Limb Go.Proofs.YtpkfknmpegieaaaDoor.Bits

theorem one_len : ([1, 0, 0, 0, 0, 0] : List Int).length = 6 := rfl
theorem one_words : Words [1, 0, 0, 0, 0, 0] := words_of _ (by decide)
theorem two_words : Words [2, 0, 0, 0, 0, 0] := words_of _ (by decide)
theorem Z6_words : Words Z6 := words_of _ (by decide)
theorem aw_last : fe (num (fe (-(num [1, 0, 0, 0, 0, 0]))) + num [2, 0, 0, 0, 0, 0]) = [1, 0, 0, 0, 0, 0] := by
  rw [fe_addl, num_one, num_two, ← fe_one]; rfl
theorem aw_mul : fe (num (fe (-(num [1, 0, 0, 0, 0, 0]))) * num (fe (-(num [1, 0, 0, 0, 0, 0])))) = [1, 0, 0, 0, 0, 0] := by
  rw [fe_mull, fe_mulr, num_one, ← fe_one]; rfl
theorem aw_half : fe (num (fe (pw (num [2, 0, 0, 0, 0, 0]) (PP - 2))) + num (fe (pw (num [2, 0, 0, 0, 0, 0]) (PP - 2)))) = [1, 0, 0, 0, 0, 0] := by
  rw [fe_addl, fe_addr, num_two, ← Int.two_mul, fe_inverse (by decide +kernel), fe_one]
theorem aw_p : fe (num pL) = Z6 := by rw [num_pL, ← fe_zero]; exact fe_congr (by decide +kernel)

set_option maxRecDepth 100000 in
set_option maxHeartbeats 4000000 in
theorem awake_c (w : World) (hG : GlobD w) : Calls Tryd.prog 18 #[] w fun e w' => e = .returned (.bool true) ∧ Below w.heap.size w w' := by
  have A1 : Keep _ := ⟨fun w (hG : Glob w) => fpNeg_c [1, 0, 0, 0, 0, 0] rfl one_words w hG⟩
  have A2 : Keep _ := ⟨fun w (hG : GlobD w) => fpInv_c [2, 0, 0, 0, 0, 0] rfl two_words w hG⟩
  have A3 : Keep _ := ⟨fun w (hG : Glob w) => fpAdd_c (fe (-(num [1, 0, 0, 0, 0, 0]))) (fe_len _) (fe_words _) [2, 0, 0, 0, 0, 0] rfl two_words w hG⟩
  have A4 : Keep _ := ⟨fun w (hG : Glob w) => fpMul_c (fe (-(num [1, 0, 0, 0, 0, 0]))) (fe_len _) (fe_words _) (fe (-(num [1, 0, 0, 0, 0, 0]))) (fe_len _) (fe_words _) w hG⟩
  have A5 : Keep _ := ⟨fun w (hG : Glob w) => fpAdd_c (fe (pw (num [2, 0, 0, 0, 0, 0]) (PP - 2))) (fe_len _) (fe_words _) (fe (pw (num [2, 0, 0, 0, 0, 0]) (PP - 2))) (fe_len _) (fe_words _) w hG⟩
  have A6 : Keep _ := ⟨fun w (hG : Glob w) => fpReduce_c pL pL_len pL_words w hG⟩
  rw [aw_last] at A3
  rw [aw_mul] at A4
  rw [aw_half] at A5
  rw [aw_p] at A6
  obtain ⟨la, hla⟩ : ∃ o, fe (-(num [1, 0, 0, 0, 0, 0])) = o := ⟨_, rfl⟩
  have Lla : Keep (la.length = 6) := ⟨by rw [← hla]; exact fe_len _⟩
  obtain ⟨ha, hha⟩ : ∃ o, fe (pw (num [2, 0, 0, 0, 0, 0]) (PP - 2)) = o := ⟨_, rfl⟩
  have Lha : Keep (ha.length = 6) := ⟨by rw [← hha]; exact fe_len _⟩
  rw [hla] at A1 A3 A4
  rw [hha] at A2 A5
  have Lone : Keep (([1, 0, 0, 0, 0, 0] : List Int).length = 6) := ⟨rfl⟩
  have LZ : Keep (Z6.length = 6) := ⟨rfl⟩
  have LP : Keep (pL.length = 6) := ⟨rfl⟩
  have E1 := eq6 [1, 0, 0, 0, 0, 0] rfl
  have E2 := eq6 Z6 rfl
  have hgd := gd6
  have hb0 : Below w.heap.size w w := Below.refl _ _
  have HG : Keep (∀ x : World, Below w.heap.size w x → Glob x) := ⟨fun x h => hG.toGlob.keep h⟩
  have HD : Keep (∀ x : World, Below w.heap.size w x → GlobD x) := ⟨fun x h => hG.keep h⟩
  clear hla hha hG
  go_enter Tryd.func18, Tryd.ntmps18
  go_wp2_with (first
    | (refine wpList_buildTo (by rfl) 25 #[(0, .const (.int .u64 1))] (by rfl) (some 7) (by rfl) (vals .u64 [1, 0, 0, 0, 0, 0]) (by kernel_rfl) ?_)
    | (refine wpList_buildTo (by rfl) 25 #[(0, .const (.int .u64 2))] (by rfl) (some 10) (by rfl) (vals .u64 [2, 0, 0, 0, 0, 0]) (by kernel_rfl) ?_)
    | (refine store_abs2 (by rfl) 25 (.tmp 6) (.tmp 16) (by rfl) (by rfl) w8.heap.size (vals .u64 pL) (by rfl) (by rfl) 25 (vals .u64 Z6) (Has.new' _ rfl _ _) (by rw [vals_size, LP.out]; kernel_rfl) (by first | rfl | (rw [vals_size, vals_size, LP.out]; rfl)) vals_one ?_
       intro w9 hP9 hkeep hbg
       have hbe := ((Below.refl w8.heap.size w8).alloc (Nat.le_refl _) (.cells (vals .u64 Z6) 25)).trans hbg
       have hO9 := hO8.keep hbe
       have hL9 := hL8.keep hbe
       have hH9 := hH8.keep hbe
       have hb9 := hb8.trans (hbe.mono hb8.size)
       clear hkeep hbg hbe hb8 hO8 hL8 hH8)
    | (go_at_call 19
       refine (fpP_c _ (HG.out _ hb7)).mono ?_
       rintro e w8 ⟨rfl, hq⟩
       have hO8 := hO7.keep hq
       have hL8 := hL7.keep hq
       have hH8 := hH7.keep hq
       have hb8 := hb7.trans (hq.mono hb7.size)
       clear hq hb7 hO7 hL7 hH7)
    | (refine store_abs2 (by rfl) 25 (.tmp 4) (.tmp 14) (by rfl) (by rfl) w6.heap.size (vals .u64 Z6) (by rfl) (by rfl) 25 (vals .u64 Z6) (Has.new' _ rfl _ _) (by rw [vals_size, LZ.out]; kernel_rfl) (by first | rfl | (rw [vals_size, vals_size, LZ.out]; rfl)) vals_one ?_
       intro w7 hX7 hkeep hbg
       have hbe := ((Below.refl w6.heap.size w6).alloc (Nat.le_refl _) (.cells (vals .u64 Z6) 25)).trans hbg
       have hO7 := hO6.keep hbe
       have hL7 := hL6.keep hbe
       have hH7 := hH6.keep hbe
       have hb7 := hb6.trans (hbe.mono hb6.size)
       clear hkeep hbg hbe hb6 hO6 hL6 hH6)
    | (go_at_call 37
       refine (fpFromBytes_no none 0 0 _ (HG.out _ hb5) (by decide)).mono ?_
       rintro e w6 ⟨rfl, hq⟩
       have hO6 := hO5.keep hq
       have hL6 := hL5.keep hq
       have hH6 := hH5.keep hq
       have hb6 := hb5.trans (hq.mono hb5.size)
       clear hq hb5 hO5 hL5 hH5)
    | (refine store_abs2 (by rfl) 25 (.tmp 3) (.tmp 11) (by rfl) (by rfl) w4.heap.size (vals .u64 ha) (by rfl) (by rfl) 25 (vals .u64 Z6) (Has.new' _ rfl _ _) (by rw [vals_size, Lha.out]; kernel_rfl) (by first | rfl | (rw [vals_size, vals_size, Lha.out]; rfl)) vals_one ?_
       intro w5 hH5 hkeep hbg
       have hbe := ((Below.refl w4.heap.size w4).alloc (Nat.le_refl _) (.cells (vals .u64 Z6) 25)).trans hbg
       have hO5 := hO4.keep hbe
       have hL5 := hL4.keep hbe
       have hb5 := hb4.trans (hbe.mono hb4.size)
       clear hkeep hbg hbe hb4 hO4 hL4)
    | (go_at_call 31
       refine (A2.out _ (HD.out _ hb3)).mono ?_
       rintro e w4 ⟨rfl, hq⟩
       have hO4 := hO3.keep hq
       have hL4 := hL3.keep hq
       have hb4 := hb3.trans (hq.mono hb3.size)
       clear hq hb3 hO3 hL3)
    | (refine store_abs2 (by rfl) 25 (.tmp 2) (.tmp 9) (by rfl) (by rfl) w2.heap.size (vals .u64 la) (by rfl) (by rfl) 25 (vals .u64 Z6) (Has.new' _ rfl _ _) (by rw [vals_size, Lla.out]; kernel_rfl) (by first | rfl | (rw [vals_size, vals_size, Lla.out]; rfl)) vals_one ?_
       intro w3 hL3 hkeep hbg
       have hbe := ((Below.refl w2.heap.size w2).alloc (Nat.le_refl _) (.cells (vals .u64 Z6) 25)).trans hbg
       have hO3 := hO2.keep hbe
       have hb3 := hb2.trans (hbe.mono hb2.size)
       clear hkeep hbg hbe hb2 hO2)
    | (go_at_call 27
       refine (A1.out _ (HG.out _ hb1)).mono ?_
       rintro e w2 ⟨rfl, hq⟩
       have hO2 := hO1.keep hq
       have hb2 := hb1.trans (hq.mono hb1.size)
       clear hq hb1 hO1)
    | (refine wpList_load_row rfl 25 (.tmp 1) rfl (w.heap.size) rfl _ _ _ _ hO1.eq Tryd.underlying25 rfl (by rw [vals_size, Lone.out]; kernel_rfl) ?_)
    | (refine store_abs2 (by rfl) 25 (.tmp 1) (.tmp 7) (by rfl) (by rfl) w.heap.size (vals .u64 [1, 0, 0, 0, 0, 0]) (by rfl) (by rfl) 25 (vals .u64 Z6) (Has.new' _ rfl _ _) (by rw [vals_size, Lone.out]; kernel_rfl) (by first | rfl | (rw [vals_size, vals_size, Lone.out]; rfl)) vals_one ?_
       intro w1 hO1 hkeep hbg
       have hbe := ((Below.refl w.heap.size w).alloc (Nat.le_refl _) (.cells (vals .u64 Z6) 25)).trans hbg
       have hb1 := hb0.trans (hbe.mono hb0.size)
       clear hkeep hbg hbe hb0 ))
  refine wp_fam_all (by kernel_rfl) (by kernel_rfl) (fun I hI' fw hf hback => ?_)
  have HGf : Keep (∀ j, Glob (fw j)) := ⟨fun j => HG.out _ (hb9.trans ((hf j).mono hb9.size))⟩
  have HDf : Keep (∀ j, GlobD (fw j)) := ⟨fun j => HD.out _ (hb9.trans ((hf j).mono hb9.size))⟩
  have c6 : ∀ j, (fw j).cell? ⟨w8.heap.size, 0, none⟩ = some (.int .u64 13402431016077863595) := fun j => (hP9.keep (hf j)).val (i := 0) (by rw [LP.out]; omega)
  repeat (first
    | (go_big_quiet_want
       refine quiet_load_seg 25 (.tmp 1) (by rfl) (w.heap.size) 0 6 (by rfl) 25 .u64 [1, 0, 0, 0, 0, 0] [1, 0, 0, 0, 0, 0] _ (fun w' ⟨i, hi⟩ => by rw [hi]; exact hO9.keep (hf i)) Tryd.underlying25 rfl (by kernel_rfl) (by rw [List.drop_zero, take_all Lone.out]) (by rw [Lone.out]; omega) ?_
       simp only [Act.put, List.setIfInBounds_toArray, List.set_cons_zero, List.set_cons_succ]
       go_big_quiet_on)
    | (go_big_quiet_want
       refine quiet_load_seg 25 (.tmp 2) (by rfl) (w2.heap.size) 0 6 (by rfl) 25 .u64 la la _ (fun w' ⟨i, hi⟩ => by rw [hi]; exact hL9.keep (hf i)) Tryd.underlying25 rfl (by kernel_rfl) (by rw [List.drop_zero, take_all Lla.out]) (by rw [Lla.out]; omega) ?_
       simp only [Act.put, List.setIfInBounds_toArray, List.set_cons_zero, List.set_cons_succ]
       go_big_quiet_on)
    | (go_big_quiet_want
       refine quiet_load_seg 25 (.tmp 3) (by rfl) (w4.heap.size) 0 6 (by rfl) 25 .u64 ha ha _ (fun w' ⟨i, hi⟩ => by rw [hi]; exact hH9.keep (hf i)) Tryd.underlying25 rfl (by kernel_rfl) (by rw [List.drop_zero, take_all Lha.out]) (by rw [Lha.out]; omega) ?_
       simp only [Act.put, List.setIfInBounds_toArray, List.set_cons_zero, List.set_cons_succ]
       go_big_quiet_on)
    | (go_big_quiet_want
       refine quiet_load_seg 25 (.tmp 6) (by rfl) (w8.heap.size) 0 6 (by rfl) 25 .u64 pL pL _ (fun w' ⟨i, hi⟩ => by rw [hi]; exact hP9.keep (hf i)) Tryd.underlying25 rfl (by kernel_rfl) (by rw [List.drop_zero, take_all LP.out]) (by rw [LP.out]; omega) ?_
       simp only [Act.put, List.setIfInBounds_toArray, List.set_cons_zero, List.set_cons_succ]
       go_big_quiet_on)
    | (go_big_quiet_want
       refine quiet_build 25 #[(0, .const (.int .u64 2))] (by rfl) (vals .u64 [2, 0, 0, 0, 0, 0]) (by kernel_rfl) ?_
       simp only [Act.put, List.setIfInBounds_toArray, List.set_cons_zero, List.set_cons_succ]
       go_big_quiet_on)
    | (go_big_quiet_want
       refine quiet_build 25 #[] (by rfl) (vals .u64 Z6) (by kernel_rfl) ?_
       simp only [Act.put, List.setIfInBounds_toArray, List.set_cons_zero, List.set_cons_succ]
       go_big_quiet_on)
    | go_big_quiet_step (first | fail | (go_at_call 23; with_reducible exact calls_fam hf hback (A3.out _ (HGf.out _))) | (go_at_call 29; with_reducible exact calls_fam hf hback (A4.out _ (HGf.out _))) | (go_at_call 23; with_reducible exact calls_fam hf hback (A5.out _ (HGf.out _))) | (go_at_call 21; with_reducible exact calls_fam hf hback (A6.out _ (HGf.out _)))))
  refine wpQuiet_nil ?_
  intro w10 hq
  have hb10 := hb9.trans (hq.mono hb9.size)
  clear c6 HDf HGf hf hback hq  hb9 hO9 hL9 hH9 hP9
  go_wp2
  go_ret
  exact ⟨rfl, hb10⟩
end Go.Proofs.YtpkfknmpegieaaaDoor.Fp
