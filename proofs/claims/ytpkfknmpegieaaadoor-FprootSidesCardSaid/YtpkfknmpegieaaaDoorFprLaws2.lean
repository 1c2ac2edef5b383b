/-
  Own text. The walks of layer 5's statements: squares and back, sides.
-/
import Derived.Test.YtpkfknmpegieaaaDoorFprAwake
import Derived.Test.YtpkfknmpegieaaaDoorLimbOwnA
import Derived.Test.YtpkfknmpegieaaaDoorLimbOwnB
import Derived.Test.YtpkfknmpegieaaaDoorMReg
namespace Go.Proofs.YtpkfknmpegieaaaDoor.Fpr
set_option linter.unusedVariables false
set_option linter.unusedSimpArgs false
open Go Go.RowKit Go.Proofs.YtpkfknmpegieaaaDoor.Reg Go.Proofs.YtpkfknmpegieaaaDoor.Base Go.Proofs.YtpkfknmpegieaaaDoor.Limb Go.Proofs.YtpkfknmpegieaaaDoor.Bits Go.Proofs.YtpkfknmpegieaaaDoor.Fp

set_option maxRecDepth 100000 in
set_option maxHeartbeats 4000000 in
theorem back_0 (a : List Int) (hla : a.length = 6) (hwa : Words a) (h : sgn (num a) = 0) (w : World) (hG : Glob w) : Calls Tryd.prog 14 #[.agg (vals .u64 a)] w fun e w' => e = .returned (.bool true) ∧ Below w.heap.size w w' := by
  have hev : ev (num a) = fe (num a) := by rw [ev_sgn, h]; rfl
  have hsq : sq (num (fe (num a * num a))) = true := by rw [sq_fe]; exact sq_square _
  have hrt : root (num (fe (num a * num a))) = ev (num a) := by rw [root_fe, root_sq]
  have htw := ev_two (num a)
  have hwx := ev_words (num a)
  have hx2 : nth (ev (num a)) 0 % 2 = 0 := by rw [nth_two (ev_len _)]; exact ev_even _
  have M1 : Keep (∀ x : World, Glob x → _) := ⟨fun x (hG : Glob x) => fpMul_c a hla hwa a hla hwa x hG⟩
  have S1 : Keep (∀ x : World, Glob x → _) := ⟨fun x (hG : Glob x) => sqrt_c (fe (num a * num a)) (fe_len _) (fe_words _) x hG⟩
  rw [if_pos hsq, hsq, hrt] at S1
  have S2 : Keep (∀ x : World, Glob x → _) := ⟨fun x (hG : Glob x) => is_c (fe (num a * num a)) (fe_len _) (fe_words _) x hG⟩
  rw [hsq] at S2
  have R1 : Keep (∀ x : World, Glob x → _) := ⟨fun x (hG : Glob x) => fpReduce_c a hla hwa x hG⟩
  have N1 : Keep (∀ x : World, Glob x → _) := ⟨fun x (hG : Glob x) => fpNeg_c a hla hwa x hG⟩
  have M2 : Keep (∀ x : World, Glob x → _) := ⟨fun x (hG : Glob x) => fpMul_c (ev (num a)) (ev_len _) hwx (ev (num a)) (ev_len _) hwx x hG⟩
  rw [htw] at M2
  rw [hev] at S1 M2 hx2 hwx
  obtain ⟨s, hs⟩ : ∃ o, fe (num a * num a) = o := ⟨_, rfl⟩
  have Ls : Keep (s.length = 6) := ⟨by rw [← hs]; exact fe_len _⟩
  have Es := eq6 s Ls.out
  obtain ⟨y, hy⟩ : ∃ o, fe (num a) = o := ⟨_, rfl⟩
  have Ly : Keep (y.length = 6) := ⟨by rw [← hy]; exact fe_len _⟩
  have Ey := eq6 y Ly.out
  obtain ⟨z, hz⟩ : ∃ o, fe (-num a) = o := ⟨_, rfl⟩
  have Lz : Keep (z.length = 6) := ⟨by rw [← hz]; exact fe_len _⟩
  have Ez := eq6 z Lz.out
  rw [hs] at M1 S1 S2 M2
  rw [hy] at S1 M2 hx2 hwx
  rw [hy] at R1
  rw [hz] at N1
  obtain ⟨x0, hx0⟩ : ∃ x, nth y 0 = x := ⟨_, rfl⟩
  have b0 := hwx 0
  rw [hx0] at hx2 b0
  have La : Keep (a.length = 6) := ⟨hla⟩
  have Lo : Keep (Z6.length = 6) := ⟨rfl⟩
  have hgd := gd6
  obtain ⟨S, hS⟩ : ∃ S, w.heap.size = S := ⟨_, rfl⟩
  have qa0 : Has (w.alloc (.cells (vals .u64 a) 25)) (S) 25 (vals .u64 a) := by exact (Has.new' _ hS.symm _ _)
  have hb0 : Below S w (w.alloc (.cells (vals .u64 a) 25)) := by rw [← hS]; exact ((Below.refl _ _).alloc (Nat.le_refl _) _)
  have hsz0 : (w.alloc (.cells (vals .u64 a) 25)).heap.size = S + 1 := by simp only [World.size_alloc, hS]
  have HS0 : Keep (S ≤ w.heap.size) := ⟨by omega⟩
  have HSS : Keep (∀ x : World, Below S w x → S ≤ x.heap.size) := ⟨fun x hb => Nat.le_trans HS0.out hb.size⟩
  have HG : Keep (∀ x : World, Below S w x → Glob x) := ⟨fun x hb => hG.keep (by rw [hS]; exact hb)⟩
  rw [hS]
  clear hs hy hz hev hsq hrt htw hwx h hla hwa hG
  go_enter Tryd.func14, Tryd.ntmps14
  go_wp2_with (first
    | (refine store_abs2 (by rfl) 25 (.tmp 8) (.tmp 21) (by rfl) (by rfl) (w8.heap.size) (vals .u64 z) (by rfl) (by rfl) 25 (vals .u64 Z6) (Has.new' _ rfl _ _) (by rw [vals_size, Lz.out]; kernel_rfl) (by first | rfl | (rw [vals_size, vals_size, Lz.out]; rfl)) vals_one ?_
       intro w9 qz9 hkeep hbg
       have hbe := ((Below.refl (w8).heap.size (w8)).alloc (Nat.le_refl _) (.cells (vals .u64 Z6) 25)).trans hbg
       have Naz : Keep (S < w8.heap.size) := ⟨qa8.lt⟩
       have Nsz : Keep (w2.heap.size < w8.heap.size) := ⟨qs8.lt⟩
       have Nxz : Keep (w4.heap.size < w8.heap.size) := ⟨qx8.lt⟩
       have Nyz : Keep (w6.heap.size < w8.heap.size) := ⟨qy8.lt⟩
       have Mz : Keep (S ≤ w8.heap.size) := ⟨HSS.out _ hb8⟩
       have qa9 := qa8.keep hbe
       have qs9 := qs8.keep hbe
       have qx9 := qx8.keep hbe
       have qy9 := qy8.keep hbe
       have hb9 := hb8.trans (hbe.mono (HSS.out _ hb8))
       clear hkeep hbg hbe hb8 qa8 qs8 qx8 qy8)
    | (go_at_call 27
       refine (N1.out _ (HG.out _ hb7)).mono ?_
       rintro e w8 ⟨rfl, hq⟩
       have qa8 := qa7.keep hq
       have qs8 := qs7.keep hq
       have qx8 := qx7.keep hq
       have qy8 := qy7.keep hq
       have hb8 := hb7.trans (hq.mono (HSS.out _ hb7))
       clear hq hb7 qa7 qs7 qx7 qy7)
    | (refine wpList_load_row rfl 25 (.tmp 1) rfl (S) rfl _ _ _ _ qa7.eq Tryd.underlying25 rfl (by rw [vals_size, La.out]; kernel_rfl) ?_)
    | (refine store_abs2 (by rfl) 25 (.tmp 7) (.tmp 19) (by rfl) (by rfl) (w6.heap.size) (vals .u64 y) (by rfl) (by rfl) 25 (vals .u64 Z6) (Has.new' _ rfl _ _) (by rw [vals_size, Ly.out]; kernel_rfl) (by first | rfl | (rw [vals_size, vals_size, Ly.out]; rfl)) vals_one ?_
       intro w7 qy7 hkeep hbg
       have hbe := ((Below.refl (w6).heap.size (w6)).alloc (Nat.le_refl _) (.cells (vals .u64 Z6) 25)).trans hbg
       have Nay : Keep (S < w6.heap.size) := ⟨qa6.lt⟩
       have Nsy : Keep (w2.heap.size < w6.heap.size) := ⟨qs6.lt⟩
       have Nxy : Keep (w4.heap.size < w6.heap.size) := ⟨qx6.lt⟩
       have My : Keep (S ≤ w6.heap.size) := ⟨HSS.out _ hb6⟩
       have qa7 := qa6.keep hbe
       have qs7 := qs6.keep hbe
       have qx7 := qx6.keep hbe
       have hb7 := hb6.trans (hbe.mono (HSS.out _ hb6))
       clear hkeep hbg hbe hb6 qa6 qs6 qx6)
    | (go_at_call 21
       refine (R1.out _ (HG.out _ hb5)).mono ?_
       rintro e w6 ⟨rfl, hq⟩
       have qa6 := qa5.keep hq
       have qs6 := qs5.keep hq
       have qx6 := qx5.keep hq
       have hb6 := hb5.trans (hq.mono (HSS.out _ hb5))
       clear hq hb5 qa5 qs5 qx5)
    | (refine wpList_load_row rfl 25 (.tmp 1) rfl (S) rfl _ _ _ _ qa5.eq Tryd.underlying25 rfl (by rw [vals_size, La.out]; kernel_rfl) ?_)
    | (refine store_abs2 (by rfl) 25 (.tmp 5) (.tmp 16) (by rfl) (by rfl) (w4.heap.size) (vals .u64 y) (by rfl) (by rfl) 25 (vals .u64 Z6) (Has.new' _ rfl _ _) (by rw [vals_size, Ly.out]; kernel_rfl) (by first | rfl | (rw [vals_size, vals_size, Ly.out]; rfl)) vals_one ?_
       intro w5 qx5 hkeep hbg
       have hbe := ((Below.refl (w4).heap.size (w4)).alloc (Nat.le_refl _) (.cells (vals .u64 Z6) 25)).trans hbg
       have Nax : Keep (S < w4.heap.size) := ⟨qa4.lt⟩
       have Nsx : Keep (w2.heap.size < w4.heap.size) := ⟨qs4.lt⟩
       have Mx : Keep (S ≤ w4.heap.size) := ⟨HSS.out _ hb4⟩
       have qa5 := qa4.keep hbe
       have qs5 := qs4.keep hbe
       have hb5 := hb4.trans (hbe.mono (HSS.out _ hb4))
       clear hkeep hbg hbe hb4 qa4 qs4)
    | (go_at_call 44
       refine (S1.out _ (HG.out _ hb3)).mono ?_
       rintro e w4 ⟨rfl, hq⟩
       have qa4 := qa3.keep hq
       have qs4 := qs3.keep hq
       have hb4 := hb3.trans (hq.mono (HSS.out _ hb3))
       clear hq hb3 qa3 qs3)
    | (refine wpList_load_row rfl 25 (.tmp 4) rfl (w2.heap.size) rfl _ _ _ _ qs3.eq Tryd.underlying25 rfl (by rw [vals_size, Ls.out]; kernel_rfl) ?_)
    | (refine store_abs2 (by rfl) 25 (.tmp 4) (.tmp 12) (by rfl) (by rfl) (w2.heap.size) (vals .u64 s) (by rfl) (by rfl) 25 (vals .u64 Z6) (Has.new' _ rfl _ _) (by rw [vals_size, Ls.out]; kernel_rfl) (by first | rfl | (rw [vals_size, vals_size, Ls.out]; rfl)) vals_one ?_
       intro w3 qs3 hkeep hbg
       have hbe := ((Below.refl (w2).heap.size (w2)).alloc (Nat.le_refl _) (.cells (vals .u64 Z6) 25)).trans hbg
       have Nas : Keep (S < w2.heap.size) := ⟨qa2.lt⟩
       have Ms : Keep (S ≤ w2.heap.size) := ⟨HSS.out _ hb2⟩
       have qa3 := qa2.keep hbe
       have hb3 := hb2.trans (hbe.mono (HSS.out _ hb2))
       clear hkeep hbg hbe hb2 qa2)
    | (go_at_call 29
       refine (M1.out _ (HG.out _ hb1)).mono ?_
       rintro e w2 ⟨rfl, hq⟩
       have qa2 := qa1.keep hq
       have hb2 := hb1.trans (hq.mono (HSS.out _ hb1))
       clear hq hb1 qa1)
    | (refine wpList_load_row rfl 25 (.tmp 1) rfl (S) rfl _ _ _ _ qa1.eq Tryd.underlying25 rfl (by rw [vals_size, La.out]; kernel_rfl) ?_)
    | (go_at_call 43
       refine (awake_c _ (HG.out _ hb0)).mono ?_
       rintro e w1 ⟨rfl, hq⟩
       have qa1 := qa0.keep hq
       have hb1 := hb0.trans (hq.mono (HSS.out _ hb0))
       clear hq hb0 qa0))
  go_wp2
  refine wp_fam_all (by kernel_rfl) (by kernel_rfl) (fun I hI' fw hf hback => ?_)
  have HGf : Keep (∀ j, Glob (fw j)) := ⟨fun j => HG.out _ (hb9.trans ((hf j).mono (HSS.out _ hb9)))⟩
  have c0 : ∀ j, (fw j).cell? ⟨w4.heap.size, 0, none⟩ = some (.int .u64 x0) := fun j => by rw [(qx9.keep (hf j)).val (i := 0) (by rw [Ly.out]; decide), hx0]
  repeat (first
    | (go_big_quiet_want
       refine quiet_load_seg 25 (.tmp 4) (by rfl) (w2.heap.size) 0 6 (by rfl) 25 .u64 s s _ (fun w' ⟨i, hi⟩ => by rw [hi]; exact qs9.keep (hf i)) Tryd.underlying25 rfl (by kernel_rfl) (by rw [List.drop_zero, take_all Ls.out]) (by rw [Ls.out]; omega) ?_
       simp only [Act.put, List.setIfInBounds_toArray, List.set_cons_zero, List.set_cons_succ]
       go_big_quiet_on)
    | (go_big_quiet_want
       refine quiet_load_seg 25 (.tmp 5) (by rfl) (w4.heap.size) 0 6 (by rfl) 25 .u64 y y _ (fun w' ⟨i, hi⟩ => by rw [hi]; exact qx9.keep (hf i)) Tryd.underlying25 rfl (by kernel_rfl) (by rw [List.drop_zero, take_all Ly.out]) (by rw [Ly.out]; omega) ?_
       simp only [Act.put, List.setIfInBounds_toArray, List.set_cons_zero, List.set_cons_succ]
       go_big_quiet_on)
    | (go_big_quiet_want
       refine quiet_load_seg 25 (.tmp 7) (by rfl) (w6.heap.size) 0 6 (by rfl) 25 .u64 y y _ (fun w' ⟨i, hi⟩ => by rw [hi]; exact qy9.keep (hf i)) Tryd.underlying25 rfl (by kernel_rfl) (by rw [List.drop_zero, take_all Ly.out]) (by rw [Ly.out]; omega) ?_
       simp only [Act.put, List.setIfInBounds_toArray, List.set_cons_zero, List.set_cons_succ]
       go_big_quiet_on)
    | (go_big_quiet_want
       refine quiet_load_seg 25 (.tmp 8) (by rfl) (w8.heap.size) 0 6 (by rfl) 25 .u64 z z _ (fun w' ⟨i, hi⟩ => by rw [hi]; exact qz9.keep (hf i)) Tryd.underlying25 rfl (by kernel_rfl) (by rw [List.drop_zero, take_all Lz.out]) (by rw [Lz.out]; omega) ?_
       simp only [Act.put, List.setIfInBounds_toArray, List.set_cons_zero, List.set_cons_succ]
       go_big_quiet_on)
    | go_big_quiet_step (first | fail | (go_at_call 46; with_reducible exact calls_fam hf hback (S2.out _ (HGf.out _))) | (go_at_call 29; with_reducible exact calls_fam hf hback (M2.out _ (HGf.out _)))))
  refine wpQuiet_nil ?_
  intro w10 hq
  have qa10 := qa9.keep hq
  have qs10 := qs9.keep hq
  have qx10 := qx9.keep hq
  have qy10 := qy9.keep hq
  have qz10 := qz9.keep hq
  have hb10 := hb9.trans (hq.mono (HSS.out _ hb9))
  clear c0 HGf hf hback hq hb9 qa9 qs9 qx9 qy9 qz9
  go_wp2
  go_ret
  exact ⟨rfl, hb10⟩

set_option maxRecDepth 100000 in
set_option maxHeartbeats 4000000 in
theorem back_1 (a : List Int) (hla : a.length = 6) (hwa : Words a) (h : sgn (num a) = 1) (w : World) (hG : Glob w) : Calls Tryd.prog 14 #[.agg (vals .u64 a)] w fun e w' => e = .returned (.bool true) ∧ Below w.heap.size w w' := by
  have hev : ev (num a) = fe (-num a) := by rw [ev_sgn, h]; rfl
  have hsq : sq (num (fe (num a * num a))) = true := by rw [sq_fe]; exact sq_square _
  have hrt : root (num (fe (num a * num a))) = ev (num a) := by rw [root_fe, root_sq]
  have htw := ev_two (num a)
  have hwx := ev_words (num a)
  have hx2 : nth (ev (num a)) 0 % 2 = 0 := by rw [nth_two (ev_len _)]; exact ev_even _
  have hne := fe_ne_neg h
  have M1 : Keep (∀ x : World, Glob x → _) := ⟨fun x (hG : Glob x) => fpMul_c a hla hwa a hla hwa x hG⟩
  have S1 : Keep (∀ x : World, Glob x → _) := ⟨fun x (hG : Glob x) => sqrt_c (fe (num a * num a)) (fe_len _) (fe_words _) x hG⟩
  rw [if_pos hsq, hsq, hrt] at S1
  have S2 : Keep (∀ x : World, Glob x → _) := ⟨fun x (hG : Glob x) => is_c (fe (num a * num a)) (fe_len _) (fe_words _) x hG⟩
  rw [hsq] at S2
  have R1 : Keep (∀ x : World, Glob x → _) := ⟨fun x (hG : Glob x) => fpReduce_c a hla hwa x hG⟩
  have N1 : Keep (∀ x : World, Glob x → _) := ⟨fun x (hG : Glob x) => fpNeg_c a hla hwa x hG⟩
  have M2 : Keep (∀ x : World, Glob x → _) := ⟨fun x (hG : Glob x) => fpMul_c (ev (num a)) (ev_len _) hwx (ev (num a)) (ev_len _) hwx x hG⟩
  rw [htw] at M2
  rw [hev] at S1 M2 hx2 hwx
  obtain ⟨s, hs⟩ : ∃ o, fe (num a * num a) = o := ⟨_, rfl⟩
  have Ls : Keep (s.length = 6) := ⟨by rw [← hs]; exact fe_len _⟩
  have Es := eq6 s Ls.out
  obtain ⟨y, hy⟩ : ∃ o, fe (num a) = o := ⟨_, rfl⟩
  have Ly : Keep (y.length = 6) := ⟨by rw [← hy]; exact fe_len _⟩
  have Ey := eq6 y Ly.out
  obtain ⟨z, hz⟩ : ∃ o, fe (-num a) = o := ⟨_, rfl⟩
  have Lz : Keep (z.length = 6) := ⟨by rw [← hz]; exact fe_len _⟩
  have Ez := eq6 z Lz.out
  rw [hs] at M1 S1 S2 M2
  rw [hz] at S1 M2 hx2 hwx
  rw [hy] at R1
  rw [hz] at N1
  have EN : ∀ w : World, (Op.equalIn 10000 25 (.agg (vals .u64 z)) (.agg (vals .u64 y))).run Tryd.prog w = .ok false w := fun w => by rw [eqn6' z y Lz.out Ly.out, decide_eq_false (by rw [← hz, ← hy]; exact hne)]
  obtain ⟨x0, hx0⟩ : ∃ x, nth z 0 = x := ⟨_, rfl⟩
  have b0 := hwx 0
  rw [hx0] at hx2 b0
  have La : Keep (a.length = 6) := ⟨hla⟩
  have Lo : Keep (Z6.length = 6) := ⟨rfl⟩
  have hgd := gd6
  obtain ⟨S, hS⟩ : ∃ S, w.heap.size = S := ⟨_, rfl⟩
  have qa0 : Has (w.alloc (.cells (vals .u64 a) 25)) (S) 25 (vals .u64 a) := by exact (Has.new' _ hS.symm _ _)
  have hb0 : Below S w (w.alloc (.cells (vals .u64 a) 25)) := by rw [← hS]; exact ((Below.refl _ _).alloc (Nat.le_refl _) _)
  have hsz0 : (w.alloc (.cells (vals .u64 a) 25)).heap.size = S + 1 := by simp only [World.size_alloc, hS]
  have HS0 : Keep (S ≤ w.heap.size) := ⟨by omega⟩
  have HSS : Keep (∀ x : World, Below S w x → S ≤ x.heap.size) := ⟨fun x hb => Nat.le_trans HS0.out hb.size⟩
  have HG : Keep (∀ x : World, Below S w x → Glob x) := ⟨fun x hb => hG.keep (by rw [hS]; exact hb)⟩
  rw [hS]
  clear hs hy hz hev hsq hrt htw hwx h hla hwa hG hne
  go_enter Tryd.func14, Tryd.ntmps14
  go_wp2_with (first
    | (refine store_abs2 (by rfl) 25 (.tmp 8) (.tmp 21) (by rfl) (by rfl) (w8.heap.size) (vals .u64 z) (by rfl) (by rfl) 25 (vals .u64 Z6) (Has.new' _ rfl _ _) (by rw [vals_size, Lz.out]; kernel_rfl) (by first | rfl | (rw [vals_size, vals_size, Lz.out]; rfl)) vals_one ?_
       intro w9 qz9 hkeep hbg
       have hbe := ((Below.refl (w8).heap.size (w8)).alloc (Nat.le_refl _) (.cells (vals .u64 Z6) 25)).trans hbg
       have Naz : Keep (S < w8.heap.size) := ⟨qa8.lt⟩
       have Nsz : Keep (w2.heap.size < w8.heap.size) := ⟨qs8.lt⟩
       have Nxz : Keep (w4.heap.size < w8.heap.size) := ⟨qx8.lt⟩
       have Nyz : Keep (w6.heap.size < w8.heap.size) := ⟨qy8.lt⟩
       have Mz : Keep (S ≤ w8.heap.size) := ⟨HSS.out _ hb8⟩
       have qa9 := qa8.keep hbe
       have qs9 := qs8.keep hbe
       have qx9 := qx8.keep hbe
       have qy9 := qy8.keep hbe
       have hb9 := hb8.trans (hbe.mono (HSS.out _ hb8))
       clear hkeep hbg hbe hb8 qa8 qs8 qx8 qy8)
    | (go_at_call 27
       refine (N1.out _ (HG.out _ hb7)).mono ?_
       rintro e w8 ⟨rfl, hq⟩
       have qa8 := qa7.keep hq
       have qs8 := qs7.keep hq
       have qx8 := qx7.keep hq
       have qy8 := qy7.keep hq
       have hb8 := hb7.trans (hq.mono (HSS.out _ hb7))
       clear hq hb7 qa7 qs7 qx7 qy7)
    | (refine wpList_load_row rfl 25 (.tmp 1) rfl (S) rfl _ _ _ _ qa7.eq Tryd.underlying25 rfl (by rw [vals_size, La.out]; kernel_rfl) ?_)
    | (refine store_abs2 (by rfl) 25 (.tmp 7) (.tmp 19) (by rfl) (by rfl) (w6.heap.size) (vals .u64 y) (by rfl) (by rfl) 25 (vals .u64 Z6) (Has.new' _ rfl _ _) (by rw [vals_size, Ly.out]; kernel_rfl) (by first | rfl | (rw [vals_size, vals_size, Ly.out]; rfl)) vals_one ?_
       intro w7 qy7 hkeep hbg
       have hbe := ((Below.refl (w6).heap.size (w6)).alloc (Nat.le_refl _) (.cells (vals .u64 Z6) 25)).trans hbg
       have Nay : Keep (S < w6.heap.size) := ⟨qa6.lt⟩
       have Nsy : Keep (w2.heap.size < w6.heap.size) := ⟨qs6.lt⟩
       have Nxy : Keep (w4.heap.size < w6.heap.size) := ⟨qx6.lt⟩
       have My : Keep (S ≤ w6.heap.size) := ⟨HSS.out _ hb6⟩
       have qa7 := qa6.keep hbe
       have qs7 := qs6.keep hbe
       have qx7 := qx6.keep hbe
       have hb7 := hb6.trans (hbe.mono (HSS.out _ hb6))
       clear hkeep hbg hbe hb6 qa6 qs6 qx6)
    | (go_at_call 21
       refine (R1.out _ (HG.out _ hb5)).mono ?_
       rintro e w6 ⟨rfl, hq⟩
       have qa6 := qa5.keep hq
       have qs6 := qs5.keep hq
       have qx6 := qx5.keep hq
       have hb6 := hb5.trans (hq.mono (HSS.out _ hb5))
       clear hq hb5 qa5 qs5 qx5)
    | (refine wpList_load_row rfl 25 (.tmp 1) rfl (S) rfl _ _ _ _ qa5.eq Tryd.underlying25 rfl (by rw [vals_size, La.out]; kernel_rfl) ?_)
    | (refine store_abs2 (by rfl) 25 (.tmp 5) (.tmp 16) (by rfl) (by rfl) (w4.heap.size) (vals .u64 z) (by rfl) (by rfl) 25 (vals .u64 Z6) (Has.new' _ rfl _ _) (by rw [vals_size, Lz.out]; kernel_rfl) (by first | rfl | (rw [vals_size, vals_size, Lz.out]; rfl)) vals_one ?_
       intro w5 qx5 hkeep hbg
       have hbe := ((Below.refl (w4).heap.size (w4)).alloc (Nat.le_refl _) (.cells (vals .u64 Z6) 25)).trans hbg
       have Nax : Keep (S < w4.heap.size) := ⟨qa4.lt⟩
       have Nsx : Keep (w2.heap.size < w4.heap.size) := ⟨qs4.lt⟩
       have Mx : Keep (S ≤ w4.heap.size) := ⟨HSS.out _ hb4⟩
       have qa5 := qa4.keep hbe
       have qs5 := qs4.keep hbe
       have hb5 := hb4.trans (hbe.mono (HSS.out _ hb4))
       clear hkeep hbg hbe hb4 qa4 qs4)
    | (go_at_call 44
       refine (S1.out _ (HG.out _ hb3)).mono ?_
       rintro e w4 ⟨rfl, hq⟩
       have qa4 := qa3.keep hq
       have qs4 := qs3.keep hq
       have hb4 := hb3.trans (hq.mono (HSS.out _ hb3))
       clear hq hb3 qa3 qs3)
    | (refine wpList_load_row rfl 25 (.tmp 4) rfl (w2.heap.size) rfl _ _ _ _ qs3.eq Tryd.underlying25 rfl (by rw [vals_size, Ls.out]; kernel_rfl) ?_)
    | (refine store_abs2 (by rfl) 25 (.tmp 4) (.tmp 12) (by rfl) (by rfl) (w2.heap.size) (vals .u64 s) (by rfl) (by rfl) 25 (vals .u64 Z6) (Has.new' _ rfl _ _) (by rw [vals_size, Ls.out]; kernel_rfl) (by first | rfl | (rw [vals_size, vals_size, Ls.out]; rfl)) vals_one ?_
       intro w3 qs3 hkeep hbg
       have hbe := ((Below.refl (w2).heap.size (w2)).alloc (Nat.le_refl _) (.cells (vals .u64 Z6) 25)).trans hbg
       have Nas : Keep (S < w2.heap.size) := ⟨qa2.lt⟩
       have Ms : Keep (S ≤ w2.heap.size) := ⟨HSS.out _ hb2⟩
       have qa3 := qa2.keep hbe
       have hb3 := hb2.trans (hbe.mono (HSS.out _ hb2))
       clear hkeep hbg hbe hb2 qa2)
    | (go_at_call 29
       refine (M1.out _ (HG.out _ hb1)).mono ?_
       rintro e w2 ⟨rfl, hq⟩
       have qa2 := qa1.keep hq
       have hb2 := hb1.trans (hq.mono (HSS.out _ hb1))
       clear hq hb1 qa1)
    | (refine wpList_load_row rfl 25 (.tmp 1) rfl (S) rfl _ _ _ _ qa1.eq Tryd.underlying25 rfl (by rw [vals_size, La.out]; kernel_rfl) ?_)
    | (go_at_call 43
       refine (awake_c _ (HG.out _ hb0)).mono ?_
       rintro e w1 ⟨rfl, hq⟩
       have qa1 := qa0.keep hq
       have hb1 := hb0.trans (hq.mono (HSS.out _ hb0))
       clear hq hb0 qa0))
  go_wp2
  refine wp_fam_all (by kernel_rfl) (by kernel_rfl) (fun I hI' fw hf hback => ?_)
  have HGf : Keep (∀ j, Glob (fw j)) := ⟨fun j => HG.out _ (hb9.trans ((hf j).mono (HSS.out _ hb9)))⟩
  have c0 : ∀ j, (fw j).cell? ⟨w4.heap.size, 0, none⟩ = some (.int .u64 x0) := fun j => by rw [(qx9.keep (hf j)).val (i := 0) (by rw [Lz.out]; decide), hx0]
  repeat (first
    | (go_big_quiet_want
       refine quiet_load_seg 25 (.tmp 4) (by rfl) (w2.heap.size) 0 6 (by rfl) 25 .u64 s s _ (fun w' ⟨i, hi⟩ => by rw [hi]; exact qs9.keep (hf i)) Tryd.underlying25 rfl (by kernel_rfl) (by rw [List.drop_zero, take_all Ls.out]) (by rw [Ls.out]; omega) ?_
       simp only [Act.put, List.setIfInBounds_toArray, List.set_cons_zero, List.set_cons_succ]
       go_big_quiet_on)
    | (go_big_quiet_want
       refine quiet_load_seg 25 (.tmp 5) (by rfl) (w4.heap.size) 0 6 (by rfl) 25 .u64 z z _ (fun w' ⟨i, hi⟩ => by rw [hi]; exact qx9.keep (hf i)) Tryd.underlying25 rfl (by kernel_rfl) (by rw [List.drop_zero, take_all Lz.out]) (by rw [Lz.out]; omega) ?_
       simp only [Act.put, List.setIfInBounds_toArray, List.set_cons_zero, List.set_cons_succ]
       go_big_quiet_on)
    | (go_big_quiet_want
       refine quiet_load_seg 25 (.tmp 7) (by rfl) (w6.heap.size) 0 6 (by rfl) 25 .u64 y y _ (fun w' ⟨i, hi⟩ => by rw [hi]; exact qy9.keep (hf i)) Tryd.underlying25 rfl (by kernel_rfl) (by rw [List.drop_zero, take_all Ly.out]) (by rw [Ly.out]; omega) ?_
       simp only [Act.put, List.setIfInBounds_toArray, List.set_cons_zero, List.set_cons_succ]
       go_big_quiet_on)
    | (go_big_quiet_want
       refine quiet_load_seg 25 (.tmp 8) (by rfl) (w8.heap.size) 0 6 (by rfl) 25 .u64 z z _ (fun w' ⟨i, hi⟩ => by rw [hi]; exact qz9.keep (hf i)) Tryd.underlying25 rfl (by kernel_rfl) (by rw [List.drop_zero, take_all Lz.out]) (by rw [Lz.out]; omega) ?_
       simp only [Act.put, List.setIfInBounds_toArray, List.set_cons_zero, List.set_cons_succ]
       go_big_quiet_on)
    | go_big_quiet_step (first | fail | (go_at_call 46; with_reducible exact calls_fam hf hback (S2.out _ (HGf.out _))) | (go_at_call 29; with_reducible exact calls_fam hf hback (M2.out _ (HGf.out _)))))
  refine wpQuiet_nil ?_
  intro w10 hq
  have qa10 := qa9.keep hq
  have qs10 := qs9.keep hq
  have qx10 := qx9.keep hq
  have qy10 := qy9.keep hq
  have qz10 := qz9.keep hq
  have hb10 := hb9.trans (hq.mono (HSS.out _ hb9))
  clear c0 HGf hf hback hq hb9 qa9 qs9 qx9 qy9 qz9
  go_wp2
  go_ret
  exact ⟨rfl, hb10⟩

theorem back_w (a : List Int) (hla : a.length = 6) (hwa : Words a) (w : World) (hG : Glob w) : Calls Tryd.prog 14 #[.agg (vals .u64 a)] w fun e w' => e = .returned (.bool true) ∧ Below w.heap.size w w' := by
  rcases sgn_or (num a) with h | h
  · exact back_0 a hla hwa h w hG
  · exact back_1 a hla hwa h w hG

set_option maxRecDepth 100000 in
set_option maxHeartbeats 4000000 in
theorem sides_zero (a : List Int) (hla : a.length = 6) (hwa : Words a) (h : num a % PP = 0) (w : World) (hG : Glob w) : Calls Tryd.prog 17 #[.agg (vals .u64 a)] w fun e w' => e = .returned (.bool true) ∧ Below w.heap.size w w' := by
  have h1 : sgn (num a) = 0 := sgn_zero h
  have h2 : big (num a) = false := big_zero h
  have h5 : fe (num a) = Z6 := by rw [← fe_zero]; exact (fe_zero_iff _).2 h
  have R1 : Keep (∀ x : World, Glob x → _) := ⟨fun x (hG : Glob x) => fpReduce_c a hla hwa x hG⟩
  rw [h5] at R1
  have N1 : Keep (∀ x : World, Glob x → _) := ⟨fun x (hG : Glob x) => fpNeg_c a hla hwa x hG⟩
  obtain ⟨y, hy⟩ : ∃ o, fe (-num a) = o := ⟨_, rfl⟩
  have Ly : Keep (y.length = 6) := ⟨by rw [← hy]; exact fe_len _⟩
  have Ey := eq6 y Ly.out
  rw [hy] at N1
  have G1 : Keep (∀ x : World, Glob x → _) := ⟨fun x (hG : Glob x) => sign_c a hla hwa x hG⟩
  rw [h1] at G1
  have B1 : Keep (∀ x : World, Glob x → _) := ⟨fun x (hG : Glob x) => bigger_c a hla hwa x hG⟩
  rw [h2] at B1
  have EZ := eq6 Z6 rfl
  have La : Keep (a.length = 6) := ⟨hla⟩
  have Lo : Keep (Z6.length = 6) := ⟨rfl⟩
  have hgd := gd6
  obtain ⟨S, hS⟩ : ∃ S, w.heap.size = S := ⟨_, rfl⟩
  have qa0 : Has (w.alloc (.cells (vals .u64 a) 25)) (S) 25 (vals .u64 a) := by exact (Has.new' _ hS.symm _ _)
  have hb0 : Below S w (w.alloc (.cells (vals .u64 a) 25)) := by rw [← hS]; exact ((Below.refl _ _).alloc (Nat.le_refl _) _)
  have hsz0 : (w.alloc (.cells (vals .u64 a) 25)).heap.size = S + 1 := by simp only [World.size_alloc, hS]
  have HS0 : Keep (S ≤ w.heap.size) := ⟨by omega⟩
  have HSS : Keep (∀ x : World, Below S w x → S ≤ x.heap.size) := ⟨fun x hb => Nat.le_trans HS0.out hb.size⟩
  have HG : Keep (∀ x : World, Below S w x → Glob x) := ⟨fun x hb => hG.keep (by rw [hS]; exact hb)⟩
  rw [hS]
  clear h hla hwa hG h1 h2 h5 hy
  go_enter Tryd.func17, Tryd.ntmps17
  go_wp2_with (first
    | (go_at_call 50
       refine (B1.out _ (HG.out _ hb6)).mono ?_
       rintro e w7 ⟨rfl, hq⟩
       have qa7 := qa6.keep hq
       have qx7 := qx6.keep hq
       have qy7 := qy6.keep hq
       have hb7 := hb6.trans (hq.mono (HSS.out _ hb6))
       clear hq hb6 qa6 qx6 qy6)
    | (refine wpList_free (by rfl) ?_; refine wpList_load_row rfl 25 (.tmp 1) rfl (S) rfl _ _ _ _ qa6.eq Tryd.underlying25 rfl (by rw [vals_size, La.out]; kernel_rfl) ?_)
    | (go_at_call 48
       refine (G1.out _ (HG.out _ hb5)).mono ?_
       rintro e w6 ⟨rfl, hq⟩
       have qa6 := qa5.keep hq
       have qx6 := qx5.keep hq
       have qy6 := qy5.keep hq
       have hb6 := hb5.trans (hq.mono (HSS.out _ hb5))
       clear hq hb5 qa5 qx5 qy5)
    | (refine wpList_free (by rfl) ?_; refine wpList_load_row rfl 25 (.tmp 1) rfl (S) rfl _ _ _ _ qa5.eq Tryd.underlying25 rfl (by rw [vals_size, La.out]; kernel_rfl) ?_)
    | (refine wpList_buildTo (by rfl) 25 #[] (by rfl) (some 16) (by rfl) (vals .u64 Z6) (by kernel_rfl) ?_)
    | (refine wpList_load_row rfl 25 (.tmp 4) rfl (w2.heap.size) rfl _ _ _ _ qx5.eq Tryd.underlying25 rfl (by rw [vals_size, Lo.out]; kernel_rfl) ?_)
    | (refine store_abs2 (by rfl) 25 (.tmp 5) (.tmp 14) (by rfl) (by rfl) (w4.heap.size) (vals .u64 y) (by rfl) (by rfl) 25 (vals .u64 Z6) (Has.new' _ rfl _ _) (by rw [vals_size, Ly.out]; kernel_rfl) (by first | rfl | (rw [vals_size, vals_size, Ly.out]; rfl)) vals_one ?_
       intro w5 qy5 hkeep hbg
       have hbe := ((Below.refl (w4).heap.size (w4)).alloc (Nat.le_refl _) (.cells (vals .u64 Z6) 25)).trans hbg
       have Nay : Keep (S < w4.heap.size) := ⟨qa4.lt⟩
       have Nxy : Keep (w2.heap.size < w4.heap.size) := ⟨qx4.lt⟩
       have My : Keep (S ≤ w4.heap.size) := ⟨HSS.out _ hb4⟩
       have qa5 := qa4.keep hbe
       have qx5 := qx4.keep hbe
       have hb5 := hb4.trans (hbe.mono (HSS.out _ hb4))
       clear hkeep hbg hbe hb4 qa4 qx4)
    | (go_at_call 27
       refine (N1.out _ (HG.out _ hb3)).mono ?_
       rintro e w4 ⟨rfl, hq⟩
       have qa4 := qa3.keep hq
       have qx4 := qx3.keep hq
       have hb4 := hb3.trans (hq.mono (HSS.out _ hb3))
       clear hq hb3 qa3 qx3)
    | (refine wpList_load_row rfl 25 (.tmp 1) rfl (S) rfl _ _ _ _ qa3.eq Tryd.underlying25 rfl (by rw [vals_size, La.out]; kernel_rfl) ?_)
    | (refine store_abs2 (by rfl) 25 (.tmp 4) (.tmp 12) (by rfl) (by rfl) (w2.heap.size) (vals .u64 Z6) (by rfl) (by rfl) 25 (vals .u64 Z6) (Has.new' _ rfl _ _) (by rw [vals_size, Lo.out]; kernel_rfl) (by first | rfl | (rw [vals_size, vals_size, Lo.out]; rfl)) vals_one ?_
       intro w3 qx3 hkeep hbg
       have hbe := ((Below.refl (w2).heap.size (w2)).alloc (Nat.le_refl _) (.cells (vals .u64 Z6) 25)).trans hbg
       have Nax : Keep (S < w2.heap.size) := ⟨qa2.lt⟩
       have Mx : Keep (S ≤ w2.heap.size) := ⟨HSS.out _ hb2⟩
       have qa3 := qa2.keep hbe
       have hb3 := hb2.trans (hbe.mono (HSS.out _ hb2))
       clear hkeep hbg hbe hb2 qa2)
    | (go_at_call 21
       refine (R1.out _ (HG.out _ hb1)).mono ?_
       rintro e w2 ⟨rfl, hq⟩
       have qa2 := qa1.keep hq
       have hb2 := hb1.trans (hq.mono (HSS.out _ hb1))
       clear hq hb1 qa1)
    | (refine wpList_load_row rfl 25 (.tmp 1) rfl (S) rfl _ _ _ _ qa1.eq Tryd.underlying25 rfl (by rw [vals_size, La.out]; kernel_rfl) ?_)
    | (go_at_call 43
       refine (awake_c _ (HG.out _ hb0)).mono ?_
       rintro e w1 ⟨rfl, hq⟩
       have qa1 := qa0.keep hq
       have hb1 := hb0.trans (hq.mono (HSS.out _ hb0))
       clear hq hb0 qa0))
  go_ret
  exact ⟨rfl, hb7⟩

set_option maxRecDepth 100000 in
set_option maxHeartbeats 4000000 in
theorem sides_01 (a : List Int) (hla : a.length = 6) (hwa : Words a) (h : num a % PP ≠ 0) (h1 : sgn (num a) = 0) (h2 : big (num a) = true) (w : World) (hG : Glob w) : Calls Tryd.prog 17 #[.agg (vals .u64 a)] w fun e w' => e = .returned (.bool true) ∧ Below w.heap.size w w' := by
  have h3 : sgn (-num a) = 1 := by rw [sgn_neg h, h1]; rfl
  have h4 : big (-num a) = false := by rw [big_neg h, h2]; rfl
  obtain ⟨t1, t2, t3, t4⟩ := two_sum (num a)
  have t5 := cmp_over h
  rw [h2] at t5
  have t6 : cmpL (addL (fe (num a)) (fe (num a))) pL = 1 := t5
  have hne : fe (num a) ≠ Z6 := fun e => h ((fe_zero_iff _).1 (by rw [fe_zero]; exact e))
  have R1 : Keep (∀ x : World, Glob x → _) := ⟨fun x (hG : Glob x) => fpReduce_c a hla hwa x hG⟩
  have N1 : Keep (∀ x : World, Glob x → _) := ⟨fun x (hG : Glob x) => fpNeg_c a hla hwa x hG⟩
  have G1 : Keep (∀ x : World, Glob x → _) := ⟨fun x (hG : Glob x) => sign_c (fe (num a)) (fe_len _) (fe_words _) x hG⟩
  rw [sgn_fe, h1] at G1
  have G2 : Keep (∀ x : World, Glob x → _) := ⟨fun x (hG : Glob x) => sign_c (fe (-num a)) (fe_len _) (fe_words _) x hG⟩
  rw [sgn_fe, h3] at G2
  have B1 : Keep (∀ x : World, Glob x → _) := ⟨fun x (hG : Glob x) => bigger_c (fe (num a)) (fe_len _) (fe_words _) x hG⟩
  rw [big_fe, h2] at B1
  have B2 : Keep (∀ x : World, Glob x → _) := ⟨fun x (hG : Glob x) => bigger_c (fe (-num a)) (fe_len _) (fe_words _) x hG⟩
  rw [big_fe, h4] at B2
  have B3 : Keep (∀ x : World, Glob x → _) := ⟨fun x (hG : Glob x) => bigger_c a hla hwa x hG⟩
  rw [h2] at B3
  have G3 : Keep (∀ x : World, Glob x → _) := ⟨fun x (hG : Glob x) => sign_c a hla hwa x hG⟩
  rw [h1] at G3
  have wx : Words (fe (num a)) := fe_words _
  have hx2 := sgn_nth (num a)
  rw [h1] at hx2
  obtain ⟨x, hx⟩ : ∃ o, fe (num a) = o := ⟨_, rfl⟩
  have Lx : Keep (x.length = 6) := ⟨by rw [← hx]; exact fe_len _⟩
  have Ex := eq6 x Lx.out
  obtain ⟨y, hy⟩ : ∃ o, fe (-num a) = o := ⟨_, rfl⟩
  have Ly : Keep (y.length = 6) := ⟨by rw [← hy]; exact fe_len _⟩
  have Ey := eq6 y Ly.out
  rw [hx] at R1 G1 B1 t1 t2 t3 t4 t6 wx hx2 hne
  rw [hy] at N1 G2 B2
  obtain ⟨d, hd⟩ : ∃ o, addL x x = o := ⟨_, rfl⟩
  rw [hd] at t2 t3 t4 t6
  have LP : Keep (pL.length = 6) := ⟨rfl⟩
  have EN : ∀ w : World, (Op.equalIn 10000 25 (.agg (vals .u64 x)) (.agg (vals .u64 Z6))).run Tryd.prog w = .ok false w := fun w => by rw [eqn6' x Z6 Lx.out rfl, decide_eq_false hne]
  have P1 : Keep (∀ (x' : World) (g : Nat), Has x' g 25 (vals .u64 x) → Calls Tryd.prog 41 #[.slice (some ⟨g, 0, none⟩) 6 6, .slice (some ⟨g, 0, none⟩) 6 6] x' fun e w'' => ∃ A'' c'', e = .returned (.tuple #[.slice A'' 6 c'', .int .u64 0]) ∧ Frs w'' x'.heap.size A'' 6 .u64 d ∧ Below x'.heap.size x' w'') := ⟨fun x' g h => by
    have hr := Rd.of_has h h.lt (by rw [List.drop_zero, take_all Lx.out]) (by rw [Lx.out]; omega)
    have h1 := add_c (some ⟨g, 0, none⟩) 6 6 x (some ⟨g, 0, none⟩) 6 6 x x'.heap.size x' hr wx hr wx (Nat.le_refl _) (by omega) (by omega)
    rw [hd, t1, Nat.max_self] at h1
    exact h1⟩
  have P2 : Keep (∀ (x' : World) (A : Option Addr) (c g : Nat), Rd x' x'.heap.size A 6 .u64 d → Has x' g 25 (vals .u64 pL) → Calls Tryd.prog 42 #[.slice A 6 c, .slice (some ⟨g, 0, none⟩) 6 6] x' fun e w'' => e = .returned (.int .i64 (1)) ∧ Below x'.heap.size x' w'') := ⟨fun x' A c g h h' => by
    have h1 := cmp_c A 6 c d (some ⟨g, 0, none⟩) 6 6 pL x'.heap.size x' h t3 (Rd.of_has h' h'.lt (by rfl) (by decide)) pL_words (Nat.le_refl _) (by omega) (by omega)
    rw [t6] at h1
    exact h1⟩
  obtain ⟨x0, hx0⟩ : ∃ x', nth x 0 = x' := ⟨_, rfl⟩
  have b0 := wx 0
  rw [hx0] at hx2 b0
  have La : Keep (a.length = 6) := ⟨hla⟩
  have Lo : Keep (Z6.length = 6) := ⟨rfl⟩
  have hgd := gd6
  obtain ⟨S, hS⟩ : ∃ S, w.heap.size = S := ⟨_, rfl⟩
  have qa0 : Has (w.alloc (.cells (vals .u64 a) 25)) (S) 25 (vals .u64 a) := by exact (Has.new' _ hS.symm _ _)
  have hb0 : Below S w (w.alloc (.cells (vals .u64 a) 25)) := by rw [← hS]; exact ((Below.refl _ _).alloc (Nat.le_refl _) _)
  have hsz0 : (w.alloc (.cells (vals .u64 a) 25)).heap.size = S + 1 := by simp only [World.size_alloc, hS]
  have HS0 : Keep (S ≤ w.heap.size) := ⟨by omega⟩
  have HSS : Keep (∀ x : World, Below S w x → S ≤ x.heap.size) := ⟨fun x hb => Nat.le_trans HS0.out hb.size⟩
  have HG : Keep (∀ x : World, Below S w x → Glob x) := ⟨fun x hb => hG.keep (by rw [hS]; exact hb)⟩
  rw [hS]
  clear h hla hwa hG h1 h2 h3 h4 t1 t2 t3 t4 t5 t6 hne wx hx hy hd
  go_enter Tryd.func17, Tryd.ntmps17
  go_wp2_with (first
    | (refine store_abs2 (by rfl) 25 (.tmp 6) (.tmp 29) (by rfl) (by rfl) (w6.heap.size) (vals .u64 pL) (by rfl) (by rfl) 25 (vals .u64 Z6) (Has.new' _ rfl _ _) (by rw [vals_size, LP.out]; kernel_rfl) (by first | rfl | (rw [vals_size, vals_size, LP.out]; rfl)) vals_one ?_
       intro w7 qp7 hkeep hbg
       have hbe := ((Below.refl (w6).heap.size (w6)).alloc (Nat.le_refl _) (.cells (vals .u64 Z6) 25)).trans hbg
       have Nap : Keep (S < w6.heap.size) := ⟨qa6.lt⟩
       have Nxp : Keep (w2.heap.size < w6.heap.size) := ⟨qx6.lt⟩
       have Nyp : Keep (w4.heap.size < w6.heap.size) := ⟨qy6.lt⟩
       have Mp : Keep (S ≤ w6.heap.size) := ⟨HSS.out _ hb6⟩
       have qa7 := qa6.keep hbe
       have qx7 := qx6.keep hbe
       have qy7 := qy6.keep hbe
       have hb7 := hb6.trans (hbe.mono (HSS.out _ hb6))
       clear hkeep hbg hbe hb6 qa6 qx6 qy6)
    | (go_at_call 19
       refine (fpP_c _ (HG.out _ hb5)).mono ?_
       rintro e w6 ⟨rfl, hq⟩
       have qa6 := qa5.keep hq
       have qx6 := qx5.keep hq
       have qy6 := qy5.keep hq
       have hb6 := hb5.trans (hq.mono (HSS.out _ hb5))
       clear hq hb5 qa5 qx5 qy5)
    | (refine wpList_buildTo (by rfl) 25 #[] (by rfl) (some 16) (by rfl) (vals .u64 Z6) (by kernel_rfl) ?_)
    | (refine wpList_load_row rfl 25 (.tmp 4) rfl (w2.heap.size) rfl _ _ _ _ qx5.eq Tryd.underlying25 rfl (by rw [vals_size, Lx.out]; kernel_rfl) ?_)
    | (refine store_abs2 (by rfl) 25 (.tmp 5) (.tmp 14) (by rfl) (by rfl) (w4.heap.size) (vals .u64 y) (by rfl) (by rfl) 25 (vals .u64 Z6) (Has.new' _ rfl _ _) (by rw [vals_size, Ly.out]; kernel_rfl) (by first | rfl | (rw [vals_size, vals_size, Ly.out]; rfl)) vals_one ?_
       intro w5 qy5 hkeep hbg
       have hbe := ((Below.refl (w4).heap.size (w4)).alloc (Nat.le_refl _) (.cells (vals .u64 Z6) 25)).trans hbg
       have Nay : Keep (S < w4.heap.size) := ⟨qa4.lt⟩
       have Nxy : Keep (w2.heap.size < w4.heap.size) := ⟨qx4.lt⟩
       have My : Keep (S ≤ w4.heap.size) := ⟨HSS.out _ hb4⟩
       have qa5 := qa4.keep hbe
       have qx5 := qx4.keep hbe
       have hb5 := hb4.trans (hbe.mono (HSS.out _ hb4))
       clear hkeep hbg hbe hb4 qa4 qx4)
    | (go_at_call 27
       refine (N1.out _ (HG.out _ hb3)).mono ?_
       rintro e w4 ⟨rfl, hq⟩
       have qa4 := qa3.keep hq
       have qx4 := qx3.keep hq
       have hb4 := hb3.trans (hq.mono (HSS.out _ hb3))
       clear hq hb3 qa3 qx3)
    | (refine wpList_load_row rfl 25 (.tmp 1) rfl (S) rfl _ _ _ _ qa3.eq Tryd.underlying25 rfl (by rw [vals_size, La.out]; kernel_rfl) ?_)
    | (refine store_abs2 (by rfl) 25 (.tmp 4) (.tmp 12) (by rfl) (by rfl) (w2.heap.size) (vals .u64 x) (by rfl) (by rfl) 25 (vals .u64 Z6) (Has.new' _ rfl _ _) (by rw [vals_size, Lx.out]; kernel_rfl) (by first | rfl | (rw [vals_size, vals_size, Lx.out]; rfl)) vals_one ?_
       intro w3 qx3 hkeep hbg
       have hbe := ((Below.refl (w2).heap.size (w2)).alloc (Nat.le_refl _) (.cells (vals .u64 Z6) 25)).trans hbg
       have Nax : Keep (S < w2.heap.size) := ⟨qa2.lt⟩
       have Mx : Keep (S ≤ w2.heap.size) := ⟨HSS.out _ hb2⟩
       have qa3 := qa2.keep hbe
       have hb3 := hb2.trans (hbe.mono (HSS.out _ hb2))
       clear hkeep hbg hbe hb2 qa2)
    | (go_at_call 21
       refine (R1.out _ (HG.out _ hb1)).mono ?_
       rintro e w2 ⟨rfl, hq⟩
       have qa2 := qa1.keep hq
       have hb2 := hb1.trans (hq.mono (HSS.out _ hb1))
       clear hq hb1 qa1)
    | (refine wpList_load_row rfl 25 (.tmp 1) rfl (S) rfl _ _ _ _ qa1.eq Tryd.underlying25 rfl (by rw [vals_size, La.out]; kernel_rfl) ?_)
    | (go_at_call 43
       refine (awake_c _ (HG.out _ hb0)).mono ?_
       rintro e w1 ⟨rfl, hq⟩
       have qa1 := qa0.keep hq
       have hb1 := hb0.trans (hq.mono (HSS.out _ hb0))
       clear hq hb0 qa0))
  refine wp_one [0, 1] 2 (by kernel_rfl) (by rfl) (by kernel_rfl) (by kernel_rfl) (fun _ _ d _ _ h => by cases d <;> exact h) ?_
  simp only [List.filterMap_cons, List.filterMap_nil, List.getElem?_cons_zero, List.getElem?_cons_succ]
  refine ⟨_, Or.inl ⟨by rfl, fun w => (by go_simp; with_reducible rfl)⟩, ?_⟩
  simp only [Act.put, List.setIfInBounds_toArray, List.set_cons_zero, List.set_cons_succ]
  refine ⟨_, Or.inl ⟨by rfl, fun w => (by go_simp; with_reducible rfl)⟩, ?_⟩
  simp only [Act.put, List.setIfInBounds_toArray, List.set_cons_zero, List.set_cons_succ]
  refine ⟨_, rfl, ?_⟩
  refine wpList_own (by rfl) ?_
  have hbd : Below w7.heap.size w7 w7.drew := ⟨rfl, rfl, rfl, Nat.le_refl _, fun _ _ => rfl⟩
  have qa8 := qa7.keep hbd
  have qx8 := qx7.keep hbd
  have qy8 := qy7.keep hbd
  have qp8 := qp7.keep hbd
  have hb8 := hb7.trans (hbd.mono (HSS.out _ hb7))
  clear hbd hb7 qa7 qx7 qy7 qp7
  generalize w7.drew = w8 at *
  go_wp2_with (first
    | (go_at_call 41
       refine (P1.out _ _ qx8).mono ?_
       rintro e w9 ⟨As, cs, rfl, hF, hq⟩
       have qa9 := qa8.keep hq
       have qx9 := qx8.keep hq
       have qy9 := qy8.keep hq
       have qp9 := qp8.keep hq
       have hb9 := hb8.trans (hq.mono (HSS.out _ hb8))
       have hF2 := hF.rd
       clear hq hb8 qa8 qx8 qy8 qp8))
  simp only [quietThen, List.drop_succ_cons, List.drop_zero]
  intro I hI' fw hf hback
  repeat (go_big_quiet_step (fail))
  refine wpQuiet_nil ?_
  intro w10 hq
  have hF4 := rd_here hF2 hq
  have qa10 := qa9.keep hq
  have qx10 := qx9.keep hq
  have qy10 := qy9.keep hq
  have qp10 := qp9.keep hq
  have hb10 := hb9.trans (hq.mono (HSS.out _ hb9))
  clear hf hback hq hF hF2 hb9 qa9 qx9 qy9 qp9
  go_wp2_with (first
    | (go_at_call 42
       refine (P2.out _ _ _ _ hF4 qp10).mono ?_
       rintro e w11 ⟨rfl, hq⟩
       have qa11 := qa10.keep hq
       have qx11 := qx10.keep hq
       have qy11 := qy10.keep hq
       have qp11 := qp10.keep hq
       have hb11 := hb10.trans (hq.mono (HSS.out _ hb10))
       clear hq hb10 qa10 qx10 qy10 qp10))
  go_wp2
  refine wp_fam_all (by kernel_rfl) (by kernel_rfl) (fun I hI' fw hf hback => ?_)
  have HGf : Keep (∀ j, Glob (fw j)) := ⟨fun j => HG.out _ (hb11.trans ((hf j).mono (HSS.out _ hb11)))⟩
  have c0 : ∀ j, (fw j).cell? ⟨w2.heap.size, 0, none⟩ = some (.int .u64 x0) := fun j => by rw [(qx11.keep (hf j)).val (i := 0) (by rw [Lx.out]; decide), hx0]
  repeat (first
    | (go_big_quiet_want
       refine quiet_load_seg 25 (.tmp 1) (by rfl) (S) 0 6 (by rfl) 25 .u64 a a _ (fun w' ⟨i, hi⟩ => by rw [hi]; exact qa11.keep (hf i)) Tryd.underlying25 rfl (by kernel_rfl) (by rw [List.drop_zero, take_all La.out]) (by rw [La.out]; omega) ?_
       simp only [Act.put, List.setIfInBounds_toArray, List.set_cons_zero, List.set_cons_succ]
       go_big_quiet_on)
    | (go_big_quiet_want
       refine quiet_load_seg 25 (.tmp 4) (by rfl) (w2.heap.size) 0 6 (by rfl) 25 .u64 x x _ (fun w' ⟨i, hi⟩ => by rw [hi]; exact qx11.keep (hf i)) Tryd.underlying25 rfl (by kernel_rfl) (by rw [List.drop_zero, take_all Lx.out]) (by rw [Lx.out]; omega) ?_
       simp only [Act.put, List.setIfInBounds_toArray, List.set_cons_zero, List.set_cons_succ]
       go_big_quiet_on)
    | (go_big_quiet_want
       refine quiet_load_seg 25 (.tmp 5) (by rfl) (w4.heap.size) 0 6 (by rfl) 25 .u64 y y _ (fun w' ⟨i, hi⟩ => by rw [hi]; exact qy11.keep (hf i)) Tryd.underlying25 rfl (by kernel_rfl) (by rw [List.drop_zero, take_all Ly.out]) (by rw [Ly.out]; omega) ?_
       simp only [Act.put, List.setIfInBounds_toArray, List.set_cons_zero, List.set_cons_succ]
       go_big_quiet_on)
    | go_big_quiet_step (first | fail | (go_at_call 48; with_reducible exact calls_fam hf hback (G1.out _ (HGf.out _))) | (go_at_call 48; with_reducible exact calls_fam hf hback (G2.out _ (HGf.out _))) | (go_at_call 48; with_reducible exact calls_fam hf hback (G3.out _ (HGf.out _))) | (go_at_call 50; with_reducible exact calls_fam hf hback (B1.out _ (HGf.out _))) | (go_at_call 50; with_reducible exact calls_fam hf hback (B2.out _ (HGf.out _))) | (go_at_call 50; with_reducible exact calls_fam hf hback (B3.out _ (HGf.out _)))))
  refine wpQuiet_nil ?_
  intro w12 hq
  have qa12 := qa11.keep hq
  have qx12 := qx11.keep hq
  have qy12 := qy11.keep hq
  have qp12 := qp11.keep hq
  have hb12 := hb11.trans (hq.mono (HSS.out _ hb11))
  clear c0 HGf hf hback hq hb11 qa11 qx11 qy11 qp11 
  go_wp2
  go_ret
  exact ⟨rfl, hb12⟩

set_option maxRecDepth 100000 in
set_option maxHeartbeats 4000000 in
theorem sides_00 (a : List Int) (hla : a.length = 6) (hwa : Words a) (h : num a % PP ≠ 0) (h1 : sgn (num a) = 0) (h2 : big (num a) = false) (w : World) (hG : Glob w) : Calls Tryd.prog 17 #[.agg (vals .u64 a)] w fun e w' => e = .returned (.bool true) ∧ Below w.heap.size w w' := by
  have h3 : sgn (-num a) = 1 := by rw [sgn_neg h, h1]; rfl
  have h4 : big (-num a) = true := by rw [big_neg h, h2]; rfl
  obtain ⟨t1, t2, t3, t4⟩ := two_sum (num a)
  have t5 := cmp_over h
  rw [h2] at t5
  have t6 : cmpL (addL (fe (num a)) (fe (num a))) pL = -1 := t5
  have hne : fe (num a) ≠ Z6 := fun e => h ((fe_zero_iff _).1 (by rw [fe_zero]; exact e))
  have R1 : Keep (∀ x : World, Glob x → _) := ⟨fun x (hG : Glob x) => fpReduce_c a hla hwa x hG⟩
  have N1 : Keep (∀ x : World, Glob x → _) := ⟨fun x (hG : Glob x) => fpNeg_c a hla hwa x hG⟩
  have G1 : Keep (∀ x : World, Glob x → _) := ⟨fun x (hG : Glob x) => sign_c (fe (num a)) (fe_len _) (fe_words _) x hG⟩
  rw [sgn_fe, h1] at G1
  have G2 : Keep (∀ x : World, Glob x → _) := ⟨fun x (hG : Glob x) => sign_c (fe (-num a)) (fe_len _) (fe_words _) x hG⟩
  rw [sgn_fe, h3] at G2
  have B1 : Keep (∀ x : World, Glob x → _) := ⟨fun x (hG : Glob x) => bigger_c (fe (num a)) (fe_len _) (fe_words _) x hG⟩
  rw [big_fe, h2] at B1
  have B2 : Keep (∀ x : World, Glob x → _) := ⟨fun x (hG : Glob x) => bigger_c (fe (-num a)) (fe_len _) (fe_words _) x hG⟩
  rw [big_fe, h4] at B2
  have B3 : Keep (∀ x : World, Glob x → _) := ⟨fun x (hG : Glob x) => bigger_c a hla hwa x hG⟩
  rw [h2] at B3
  have G3 : Keep (∀ x : World, Glob x → _) := ⟨fun x (hG : Glob x) => sign_c a hla hwa x hG⟩
  rw [h1] at G3
  have wx : Words (fe (num a)) := fe_words _
  have hx2 := sgn_nth (num a)
  rw [h1] at hx2
  obtain ⟨x, hx⟩ : ∃ o, fe (num a) = o := ⟨_, rfl⟩
  have Lx : Keep (x.length = 6) := ⟨by rw [← hx]; exact fe_len _⟩
  have Ex := eq6 x Lx.out
  obtain ⟨y, hy⟩ : ∃ o, fe (-num a) = o := ⟨_, rfl⟩
  have Ly : Keep (y.length = 6) := ⟨by rw [← hy]; exact fe_len _⟩
  have Ey := eq6 y Ly.out
  rw [hx] at R1 G1 B1 t1 t2 t3 t4 t6 wx hx2 hne
  rw [hy] at N1 G2 B2
  obtain ⟨d, hd⟩ : ∃ o, addL x x = o := ⟨_, rfl⟩
  rw [hd] at t2 t3 t4 t6
  have LP : Keep (pL.length = 6) := ⟨rfl⟩
  have EN : ∀ w : World, (Op.equalIn 10000 25 (.agg (vals .u64 x)) (.agg (vals .u64 Z6))).run Tryd.prog w = .ok false w := fun w => by rw [eqn6' x Z6 Lx.out rfl, decide_eq_false hne]
  have P1 : Keep (∀ (x' : World) (g : Nat), Has x' g 25 (vals .u64 x) → Calls Tryd.prog 41 #[.slice (some ⟨g, 0, none⟩) 6 6, .slice (some ⟨g, 0, none⟩) 6 6] x' fun e w'' => ∃ A'' c'', e = .returned (.tuple #[.slice A'' 6 c'', .int .u64 0]) ∧ Frs w'' x'.heap.size A'' 6 .u64 d ∧ Below x'.heap.size x' w'') := ⟨fun x' g h => by
    have hr := Rd.of_has h h.lt (by rw [List.drop_zero, take_all Lx.out]) (by rw [Lx.out]; omega)
    have h1 := add_c (some ⟨g, 0, none⟩) 6 6 x (some ⟨g, 0, none⟩) 6 6 x x'.heap.size x' hr wx hr wx (Nat.le_refl _) (by omega) (by omega)
    rw [hd, t1, Nat.max_self] at h1
    exact h1⟩
  have P2 : Keep (∀ (x' : World) (A : Option Addr) (c g : Nat), Rd x' x'.heap.size A 6 .u64 d → Has x' g 25 (vals .u64 pL) → Calls Tryd.prog 42 #[.slice A 6 c, .slice (some ⟨g, 0, none⟩) 6 6] x' fun e w'' => e = .returned (.int .i64 (-1)) ∧ Below x'.heap.size x' w'') := ⟨fun x' A c g h h' => by
    have h1 := cmp_c A 6 c d (some ⟨g, 0, none⟩) 6 6 pL x'.heap.size x' h t3 (Rd.of_has h' h'.lt (by rfl) (by decide)) pL_words (Nat.le_refl _) (by omega) (by omega)
    rw [t6] at h1
    exact h1⟩
  obtain ⟨x0, hx0⟩ : ∃ x', nth x 0 = x' := ⟨_, rfl⟩
  have b0 := wx 0
  rw [hx0] at hx2 b0
  have La : Keep (a.length = 6) := ⟨hla⟩
  have Lo : Keep (Z6.length = 6) := ⟨rfl⟩
  have hgd := gd6
  obtain ⟨S, hS⟩ : ∃ S, w.heap.size = S := ⟨_, rfl⟩
  have qa0 : Has (w.alloc (.cells (vals .u64 a) 25)) (S) 25 (vals .u64 a) := by exact (Has.new' _ hS.symm _ _)
  have hb0 : Below S w (w.alloc (.cells (vals .u64 a) 25)) := by rw [← hS]; exact ((Below.refl _ _).alloc (Nat.le_refl _) _)
  have hsz0 : (w.alloc (.cells (vals .u64 a) 25)).heap.size = S + 1 := by simp only [World.size_alloc, hS]
  have HS0 : Keep (S ≤ w.heap.size) := ⟨by omega⟩
  have HSS : Keep (∀ x : World, Below S w x → S ≤ x.heap.size) := ⟨fun x hb => Nat.le_trans HS0.out hb.size⟩
  have HG : Keep (∀ x : World, Below S w x → Glob x) := ⟨fun x hb => hG.keep (by rw [hS]; exact hb)⟩
  rw [hS]
  clear h hla hwa hG h1 h2 h3 h4 t1 t2 t3 t4 t5 t6 hne wx hx hy hd
  go_enter Tryd.func17, Tryd.ntmps17
  go_wp2_with (first
    | (refine store_abs2 (by rfl) 25 (.tmp 6) (.tmp 29) (by rfl) (by rfl) (w6.heap.size) (vals .u64 pL) (by rfl) (by rfl) 25 (vals .u64 Z6) (Has.new' _ rfl _ _) (by rw [vals_size, LP.out]; kernel_rfl) (by first | rfl | (rw [vals_size, vals_size, LP.out]; rfl)) vals_one ?_
       intro w7 qp7 hkeep hbg
       have hbe := ((Below.refl (w6).heap.size (w6)).alloc (Nat.le_refl _) (.cells (vals .u64 Z6) 25)).trans hbg
       have Nap : Keep (S < w6.heap.size) := ⟨qa6.lt⟩
       have Nxp : Keep (w2.heap.size < w6.heap.size) := ⟨qx6.lt⟩
       have Nyp : Keep (w4.heap.size < w6.heap.size) := ⟨qy6.lt⟩
       have Mp : Keep (S ≤ w6.heap.size) := ⟨HSS.out _ hb6⟩
       have qa7 := qa6.keep hbe
       have qx7 := qx6.keep hbe
       have qy7 := qy6.keep hbe
       have hb7 := hb6.trans (hbe.mono (HSS.out _ hb6))
       clear hkeep hbg hbe hb6 qa6 qx6 qy6)
    | (go_at_call 19
       refine (fpP_c _ (HG.out _ hb5)).mono ?_
       rintro e w6 ⟨rfl, hq⟩
       have qa6 := qa5.keep hq
       have qx6 := qx5.keep hq
       have qy6 := qy5.keep hq
       have hb6 := hb5.trans (hq.mono (HSS.out _ hb5))
       clear hq hb5 qa5 qx5 qy5)
    | (refine wpList_buildTo (by rfl) 25 #[] (by rfl) (some 16) (by rfl) (vals .u64 Z6) (by kernel_rfl) ?_)
    | (refine wpList_load_row rfl 25 (.tmp 4) rfl (w2.heap.size) rfl _ _ _ _ qx5.eq Tryd.underlying25 rfl (by rw [vals_size, Lx.out]; kernel_rfl) ?_)
    | (refine store_abs2 (by rfl) 25 (.tmp 5) (.tmp 14) (by rfl) (by rfl) (w4.heap.size) (vals .u64 y) (by rfl) (by rfl) 25 (vals .u64 Z6) (Has.new' _ rfl _ _) (by rw [vals_size, Ly.out]; kernel_rfl) (by first | rfl | (rw [vals_size, vals_size, Ly.out]; rfl)) vals_one ?_
       intro w5 qy5 hkeep hbg
       have hbe := ((Below.refl (w4).heap.size (w4)).alloc (Nat.le_refl _) (.cells (vals .u64 Z6) 25)).trans hbg
       have Nay : Keep (S < w4.heap.size) := ⟨qa4.lt⟩
       have Nxy : Keep (w2.heap.size < w4.heap.size) := ⟨qx4.lt⟩
       have My : Keep (S ≤ w4.heap.size) := ⟨HSS.out _ hb4⟩
       have qa5 := qa4.keep hbe
       have qx5 := qx4.keep hbe
       have hb5 := hb4.trans (hbe.mono (HSS.out _ hb4))
       clear hkeep hbg hbe hb4 qa4 qx4)
    | (go_at_call 27
       refine (N1.out _ (HG.out _ hb3)).mono ?_
       rintro e w4 ⟨rfl, hq⟩
       have qa4 := qa3.keep hq
       have qx4 := qx3.keep hq
       have hb4 := hb3.trans (hq.mono (HSS.out _ hb3))
       clear hq hb3 qa3 qx3)
    | (refine wpList_load_row rfl 25 (.tmp 1) rfl (S) rfl _ _ _ _ qa3.eq Tryd.underlying25 rfl (by rw [vals_size, La.out]; kernel_rfl) ?_)
    | (refine store_abs2 (by rfl) 25 (.tmp 4) (.tmp 12) (by rfl) (by rfl) (w2.heap.size) (vals .u64 x) (by rfl) (by rfl) 25 (vals .u64 Z6) (Has.new' _ rfl _ _) (by rw [vals_size, Lx.out]; kernel_rfl) (by first | rfl | (rw [vals_size, vals_size, Lx.out]; rfl)) vals_one ?_
       intro w3 qx3 hkeep hbg
       have hbe := ((Below.refl (w2).heap.size (w2)).alloc (Nat.le_refl _) (.cells (vals .u64 Z6) 25)).trans hbg
       have Nax : Keep (S < w2.heap.size) := ⟨qa2.lt⟩
       have Mx : Keep (S ≤ w2.heap.size) := ⟨HSS.out _ hb2⟩
       have qa3 := qa2.keep hbe
       have hb3 := hb2.trans (hbe.mono (HSS.out _ hb2))
       clear hkeep hbg hbe hb2 qa2)
    | (go_at_call 21
       refine (R1.out _ (HG.out _ hb1)).mono ?_
       rintro e w2 ⟨rfl, hq⟩
       have qa2 := qa1.keep hq
       have hb2 := hb1.trans (hq.mono (HSS.out _ hb1))
       clear hq hb1 qa1)
    | (refine wpList_load_row rfl 25 (.tmp 1) rfl (S) rfl _ _ _ _ qa1.eq Tryd.underlying25 rfl (by rw [vals_size, La.out]; kernel_rfl) ?_)
    | (go_at_call 43
       refine (awake_c _ (HG.out _ hb0)).mono ?_
       rintro e w1 ⟨rfl, hq⟩
       have qa1 := qa0.keep hq
       have hb1 := hb0.trans (hq.mono (HSS.out _ hb0))
       clear hq hb0 qa0))
  refine wp_one [0, 1] 2 (by kernel_rfl) (by rfl) (by kernel_rfl) (by kernel_rfl) (fun _ _ d _ _ h => by cases d <;> exact h) ?_
  simp only [List.filterMap_cons, List.filterMap_nil, List.getElem?_cons_zero, List.getElem?_cons_succ]
  refine ⟨_, Or.inl ⟨by rfl, fun w => (by go_simp; with_reducible rfl)⟩, ?_⟩
  simp only [Act.put, List.setIfInBounds_toArray, List.set_cons_zero, List.set_cons_succ]
  refine ⟨_, Or.inl ⟨by rfl, fun w => (by go_simp; with_reducible rfl)⟩, ?_⟩
  simp only [Act.put, List.setIfInBounds_toArray, List.set_cons_zero, List.set_cons_succ]
  refine ⟨_, rfl, ?_⟩
  refine wpList_own (by rfl) ?_
  have hbd : Below w7.heap.size w7 w7.drew := ⟨rfl, rfl, rfl, Nat.le_refl _, fun _ _ => rfl⟩
  have qa8 := qa7.keep hbd
  have qx8 := qx7.keep hbd
  have qy8 := qy7.keep hbd
  have qp8 := qp7.keep hbd
  have hb8 := hb7.trans (hbd.mono (HSS.out _ hb7))
  clear hbd hb7 qa7 qx7 qy7 qp7
  generalize w7.drew = w8 at *
  go_wp2_with (first
    | (go_at_call 41
       refine (P1.out _ _ qx8).mono ?_
       rintro e w9 ⟨As, cs, rfl, hF, hq⟩
       have qa9 := qa8.keep hq
       have qx9 := qx8.keep hq
       have qy9 := qy8.keep hq
       have qp9 := qp8.keep hq
       have hb9 := hb8.trans (hq.mono (HSS.out _ hb8))
       have hF2 := hF.rd
       clear hq hb8 qa8 qx8 qy8 qp8))
  simp only [quietThen, List.drop_succ_cons, List.drop_zero]
  intro I hI' fw hf hback
  repeat (go_big_quiet_step (fail))
  refine wpQuiet_nil ?_
  intro w10 hq
  have hF4 := rd_here hF2 hq
  have qa10 := qa9.keep hq
  have qx10 := qx9.keep hq
  have qy10 := qy9.keep hq
  have qp10 := qp9.keep hq
  have hb10 := hb9.trans (hq.mono (HSS.out _ hb9))
  clear hf hback hq hF hF2 hb9 qa9 qx9 qy9 qp9
  go_wp2_with (first
    | (go_at_call 42
       refine (P2.out _ _ _ _ hF4 qp10).mono ?_
       rintro e w11 ⟨rfl, hq⟩
       have qa11 := qa10.keep hq
       have qx11 := qx10.keep hq
       have qy11 := qy10.keep hq
       have qp11 := qp10.keep hq
       have hb11 := hb10.trans (hq.mono (HSS.out _ hb10))
       clear hq hb10 qa10 qx10 qy10 qp10))
  go_wp2
  refine wp_fam_all (by kernel_rfl) (by kernel_rfl) (fun I hI' fw hf hback => ?_)
  have HGf : Keep (∀ j, Glob (fw j)) := ⟨fun j => HG.out _ (hb11.trans ((hf j).mono (HSS.out _ hb11)))⟩
  have c0 : ∀ j, (fw j).cell? ⟨w2.heap.size, 0, none⟩ = some (.int .u64 x0) := fun j => by rw [(qx11.keep (hf j)).val (i := 0) (by rw [Lx.out]; decide), hx0]
  repeat (first
    | (go_big_quiet_want
       refine quiet_load_seg 25 (.tmp 1) (by rfl) (S) 0 6 (by rfl) 25 .u64 a a _ (fun w' ⟨i, hi⟩ => by rw [hi]; exact qa11.keep (hf i)) Tryd.underlying25 rfl (by kernel_rfl) (by rw [List.drop_zero, take_all La.out]) (by rw [La.out]; omega) ?_
       simp only [Act.put, List.setIfInBounds_toArray, List.set_cons_zero, List.set_cons_succ]
       go_big_quiet_on)
    | (go_big_quiet_want
       refine quiet_load_seg 25 (.tmp 4) (by rfl) (w2.heap.size) 0 6 (by rfl) 25 .u64 x x _ (fun w' ⟨i, hi⟩ => by rw [hi]; exact qx11.keep (hf i)) Tryd.underlying25 rfl (by kernel_rfl) (by rw [List.drop_zero, take_all Lx.out]) (by rw [Lx.out]; omega) ?_
       simp only [Act.put, List.setIfInBounds_toArray, List.set_cons_zero, List.set_cons_succ]
       go_big_quiet_on)
    | (go_big_quiet_want
       refine quiet_load_seg 25 (.tmp 5) (by rfl) (w4.heap.size) 0 6 (by rfl) 25 .u64 y y _ (fun w' ⟨i, hi⟩ => by rw [hi]; exact qy11.keep (hf i)) Tryd.underlying25 rfl (by kernel_rfl) (by rw [List.drop_zero, take_all Ly.out]) (by rw [Ly.out]; omega) ?_
       simp only [Act.put, List.setIfInBounds_toArray, List.set_cons_zero, List.set_cons_succ]
       go_big_quiet_on)
    | go_big_quiet_step (first | fail | (go_at_call 48; with_reducible exact calls_fam hf hback (G1.out _ (HGf.out _))) | (go_at_call 48; with_reducible exact calls_fam hf hback (G2.out _ (HGf.out _))) | (go_at_call 48; with_reducible exact calls_fam hf hback (G3.out _ (HGf.out _))) | (go_at_call 50; with_reducible exact calls_fam hf hback (B1.out _ (HGf.out _))) | (go_at_call 50; with_reducible exact calls_fam hf hback (B2.out _ (HGf.out _))) | (go_at_call 50; with_reducible exact calls_fam hf hback (B3.out _ (HGf.out _)))))
  refine wpQuiet_nil ?_
  intro w12 hq
  have qa12 := qa11.keep hq
  have qx12 := qx11.keep hq
  have qy12 := qy11.keep hq
  have qp12 := qp11.keep hq
  have hb12 := hb11.trans (hq.mono (HSS.out _ hb11))
  clear c0 HGf hf hback hq hb11 qa11 qx11 qy11 qp11 
  go_wp2
  go_ret
  exact ⟨rfl, hb12⟩

set_option maxRecDepth 100000 in
set_option maxHeartbeats 4000000 in
theorem sides_11 (a : List Int) (hla : a.length = 6) (hwa : Words a) (h : num a % PP ≠ 0) (h1 : sgn (num a) = 1) (h2 : big (num a) = true) (w : World) (hG : Glob w) : Calls Tryd.prog 17 #[.agg (vals .u64 a)] w fun e w' => e = .returned (.bool true) ∧ Below w.heap.size w w' := by
  have h3 : sgn (-num a) = 0 := by rw [sgn_neg h, h1]; rfl
  have h4 : big (-num a) = false := by rw [big_neg h, h2]; rfl
  obtain ⟨t1, t2, t3, t4⟩ := two_sum (num a)
  have t5 := cmp_over h
  rw [h2] at t5
  have t6 : cmpL (addL (fe (num a)) (fe (num a))) pL = 1 := t5
  have hne : fe (num a) ≠ Z6 := fun e => h ((fe_zero_iff _).1 (by rw [fe_zero]; exact e))
  have R1 : Keep (∀ x : World, Glob x → _) := ⟨fun x (hG : Glob x) => fpReduce_c a hla hwa x hG⟩
  have N1 : Keep (∀ x : World, Glob x → _) := ⟨fun x (hG : Glob x) => fpNeg_c a hla hwa x hG⟩
  have G1 : Keep (∀ x : World, Glob x → _) := ⟨fun x (hG : Glob x) => sign_c (fe (num a)) (fe_len _) (fe_words _) x hG⟩
  rw [sgn_fe, h1] at G1
  have G2 : Keep (∀ x : World, Glob x → _) := ⟨fun x (hG : Glob x) => sign_c (fe (-num a)) (fe_len _) (fe_words _) x hG⟩
  rw [sgn_fe, h3] at G2
  have B1 : Keep (∀ x : World, Glob x → _) := ⟨fun x (hG : Glob x) => bigger_c (fe (num a)) (fe_len _) (fe_words _) x hG⟩
  rw [big_fe, h2] at B1
  have B2 : Keep (∀ x : World, Glob x → _) := ⟨fun x (hG : Glob x) => bigger_c (fe (-num a)) (fe_len _) (fe_words _) x hG⟩
  rw [big_fe, h4] at B2
  have B3 : Keep (∀ x : World, Glob x → _) := ⟨fun x (hG : Glob x) => bigger_c a hla hwa x hG⟩
  rw [h2] at B3
  have G3 : Keep (∀ x : World, Glob x → _) := ⟨fun x (hG : Glob x) => sign_c a hla hwa x hG⟩
  rw [h1] at G3
  have wx : Words (fe (num a)) := fe_words _
  have hx2 := sgn_nth (num a)
  rw [h1] at hx2
  obtain ⟨x, hx⟩ : ∃ o, fe (num a) = o := ⟨_, rfl⟩
  have Lx : Keep (x.length = 6) := ⟨by rw [← hx]; exact fe_len _⟩
  have Ex := eq6 x Lx.out
  obtain ⟨y, hy⟩ : ∃ o, fe (-num a) = o := ⟨_, rfl⟩
  have Ly : Keep (y.length = 6) := ⟨by rw [← hy]; exact fe_len _⟩
  have Ey := eq6 y Ly.out
  rw [hx] at R1 G1 B1 t1 t2 t3 t4 t6 wx hx2 hne
  rw [hy] at N1 G2 B2
  obtain ⟨d, hd⟩ : ∃ o, addL x x = o := ⟨_, rfl⟩
  rw [hd] at t2 t3 t4 t6
  have LP : Keep (pL.length = 6) := ⟨rfl⟩
  have EN : ∀ w : World, (Op.equalIn 10000 25 (.agg (vals .u64 x)) (.agg (vals .u64 Z6))).run Tryd.prog w = .ok false w := fun w => by rw [eqn6' x Z6 Lx.out rfl, decide_eq_false hne]
  have P1 : Keep (∀ (x' : World) (g : Nat), Has x' g 25 (vals .u64 x) → Calls Tryd.prog 41 #[.slice (some ⟨g, 0, none⟩) 6 6, .slice (some ⟨g, 0, none⟩) 6 6] x' fun e w'' => ∃ A'' c'', e = .returned (.tuple #[.slice A'' 6 c'', .int .u64 0]) ∧ Frs w'' x'.heap.size A'' 6 .u64 d ∧ Below x'.heap.size x' w'') := ⟨fun x' g h => by
    have hr := Rd.of_has h h.lt (by rw [List.drop_zero, take_all Lx.out]) (by rw [Lx.out]; omega)
    have h1 := add_c (some ⟨g, 0, none⟩) 6 6 x (some ⟨g, 0, none⟩) 6 6 x x'.heap.size x' hr wx hr wx (Nat.le_refl _) (by omega) (by omega)
    rw [hd, t1, Nat.max_self] at h1
    exact h1⟩
  have P2 : Keep (∀ (x' : World) (A : Option Addr) (c g : Nat), Rd x' x'.heap.size A 6 .u64 d → Has x' g 25 (vals .u64 pL) → Calls Tryd.prog 42 #[.slice A 6 c, .slice (some ⟨g, 0, none⟩) 6 6] x' fun e w'' => e = .returned (.int .i64 (1)) ∧ Below x'.heap.size x' w'') := ⟨fun x' A c g h h' => by
    have h1 := cmp_c A 6 c d (some ⟨g, 0, none⟩) 6 6 pL x'.heap.size x' h t3 (Rd.of_has h' h'.lt (by rfl) (by decide)) pL_words (Nat.le_refl _) (by omega) (by omega)
    rw [t6] at h1
    exact h1⟩
  obtain ⟨x0, hx0⟩ : ∃ x', nth x 0 = x' := ⟨_, rfl⟩
  have b0 := wx 0
  rw [hx0] at hx2 b0
  have La : Keep (a.length = 6) := ⟨hla⟩
  have Lo : Keep (Z6.length = 6) := ⟨rfl⟩
  have hgd := gd6
  obtain ⟨S, hS⟩ : ∃ S, w.heap.size = S := ⟨_, rfl⟩
  have qa0 : Has (w.alloc (.cells (vals .u64 a) 25)) (S) 25 (vals .u64 a) := by exact (Has.new' _ hS.symm _ _)
  have hb0 : Below S w (w.alloc (.cells (vals .u64 a) 25)) := by rw [← hS]; exact ((Below.refl _ _).alloc (Nat.le_refl _) _)
  have hsz0 : (w.alloc (.cells (vals .u64 a) 25)).heap.size = S + 1 := by simp only [World.size_alloc, hS]
  have HS0 : Keep (S ≤ w.heap.size) := ⟨by omega⟩
  have HSS : Keep (∀ x : World, Below S w x → S ≤ x.heap.size) := ⟨fun x hb => Nat.le_trans HS0.out hb.size⟩
  have HG : Keep (∀ x : World, Below S w x → Glob x) := ⟨fun x hb => hG.keep (by rw [hS]; exact hb)⟩
  rw [hS]
  clear h hla hwa hG h1 h2 h3 h4 t1 t2 t3 t4 t5 t6 hne wx hx hy hd
  go_enter Tryd.func17, Tryd.ntmps17
  go_wp2_with (first
    | (refine store_abs2 (by rfl) 25 (.tmp 6) (.tmp 29) (by rfl) (by rfl) (w6.heap.size) (vals .u64 pL) (by rfl) (by rfl) 25 (vals .u64 Z6) (Has.new' _ rfl _ _) (by rw [vals_size, LP.out]; kernel_rfl) (by first | rfl | (rw [vals_size, vals_size, LP.out]; rfl)) vals_one ?_
       intro w7 qp7 hkeep hbg
       have hbe := ((Below.refl (w6).heap.size (w6)).alloc (Nat.le_refl _) (.cells (vals .u64 Z6) 25)).trans hbg
       have Nap : Keep (S < w6.heap.size) := ⟨qa6.lt⟩
       have Nxp : Keep (w2.heap.size < w6.heap.size) := ⟨qx6.lt⟩
       have Nyp : Keep (w4.heap.size < w6.heap.size) := ⟨qy6.lt⟩
       have Mp : Keep (S ≤ w6.heap.size) := ⟨HSS.out _ hb6⟩
       have qa7 := qa6.keep hbe
       have qx7 := qx6.keep hbe
       have qy7 := qy6.keep hbe
       have hb7 := hb6.trans (hbe.mono (HSS.out _ hb6))
       clear hkeep hbg hbe hb6 qa6 qx6 qy6)
    | (go_at_call 19
       refine (fpP_c _ (HG.out _ hb5)).mono ?_
       rintro e w6 ⟨rfl, hq⟩
       have qa6 := qa5.keep hq
       have qx6 := qx5.keep hq
       have qy6 := qy5.keep hq
       have hb6 := hb5.trans (hq.mono (HSS.out _ hb5))
       clear hq hb5 qa5 qx5 qy5)
    | (refine wpList_buildTo (by rfl) 25 #[] (by rfl) (some 16) (by rfl) (vals .u64 Z6) (by kernel_rfl) ?_)
    | (refine wpList_load_row rfl 25 (.tmp 4) rfl (w2.heap.size) rfl _ _ _ _ qx5.eq Tryd.underlying25 rfl (by rw [vals_size, Lx.out]; kernel_rfl) ?_)
    | (refine store_abs2 (by rfl) 25 (.tmp 5) (.tmp 14) (by rfl) (by rfl) (w4.heap.size) (vals .u64 y) (by rfl) (by rfl) 25 (vals .u64 Z6) (Has.new' _ rfl _ _) (by rw [vals_size, Ly.out]; kernel_rfl) (by first | rfl | (rw [vals_size, vals_size, Ly.out]; rfl)) vals_one ?_
       intro w5 qy5 hkeep hbg
       have hbe := ((Below.refl (w4).heap.size (w4)).alloc (Nat.le_refl _) (.cells (vals .u64 Z6) 25)).trans hbg
       have Nay : Keep (S < w4.heap.size) := ⟨qa4.lt⟩
       have Nxy : Keep (w2.heap.size < w4.heap.size) := ⟨qx4.lt⟩
       have My : Keep (S ≤ w4.heap.size) := ⟨HSS.out _ hb4⟩
       have qa5 := qa4.keep hbe
       have qx5 := qx4.keep hbe
       have hb5 := hb4.trans (hbe.mono (HSS.out _ hb4))
       clear hkeep hbg hbe hb4 qa4 qx4)
    | (go_at_call 27
       refine (N1.out _ (HG.out _ hb3)).mono ?_
       rintro e w4 ⟨rfl, hq⟩
       have qa4 := qa3.keep hq
       have qx4 := qx3.keep hq
       have hb4 := hb3.trans (hq.mono (HSS.out _ hb3))
       clear hq hb3 qa3 qx3)
    | (refine wpList_load_row rfl 25 (.tmp 1) rfl (S) rfl _ _ _ _ qa3.eq Tryd.underlying25 rfl (by rw [vals_size, La.out]; kernel_rfl) ?_)
    | (refine store_abs2 (by rfl) 25 (.tmp 4) (.tmp 12) (by rfl) (by rfl) (w2.heap.size) (vals .u64 x) (by rfl) (by rfl) 25 (vals .u64 Z6) (Has.new' _ rfl _ _) (by rw [vals_size, Lx.out]; kernel_rfl) (by first | rfl | (rw [vals_size, vals_size, Lx.out]; rfl)) vals_one ?_
       intro w3 qx3 hkeep hbg
       have hbe := ((Below.refl (w2).heap.size (w2)).alloc (Nat.le_refl _) (.cells (vals .u64 Z6) 25)).trans hbg
       have Nax : Keep (S < w2.heap.size) := ⟨qa2.lt⟩
       have Mx : Keep (S ≤ w2.heap.size) := ⟨HSS.out _ hb2⟩
       have qa3 := qa2.keep hbe
       have hb3 := hb2.trans (hbe.mono (HSS.out _ hb2))
       clear hkeep hbg hbe hb2 qa2)
    | (go_at_call 21
       refine (R1.out _ (HG.out _ hb1)).mono ?_
       rintro e w2 ⟨rfl, hq⟩
       have qa2 := qa1.keep hq
       have hb2 := hb1.trans (hq.mono (HSS.out _ hb1))
       clear hq hb1 qa1)
    | (refine wpList_load_row rfl 25 (.tmp 1) rfl (S) rfl _ _ _ _ qa1.eq Tryd.underlying25 rfl (by rw [vals_size, La.out]; kernel_rfl) ?_)
    | (go_at_call 43
       refine (awake_c _ (HG.out _ hb0)).mono ?_
       rintro e w1 ⟨rfl, hq⟩
       have qa1 := qa0.keep hq
       have hb1 := hb0.trans (hq.mono (HSS.out _ hb0))
       clear hq hb0 qa0))
  refine wp_one [0, 1] 2 (by kernel_rfl) (by rfl) (by kernel_rfl) (by kernel_rfl) (fun _ _ d _ _ h => by cases d <;> exact h) ?_
  simp only [List.filterMap_cons, List.filterMap_nil, List.getElem?_cons_zero, List.getElem?_cons_succ]
  refine ⟨_, Or.inl ⟨by rfl, fun w => (by go_simp; with_reducible rfl)⟩, ?_⟩
  simp only [Act.put, List.setIfInBounds_toArray, List.set_cons_zero, List.set_cons_succ]
  refine ⟨_, Or.inl ⟨by rfl, fun w => (by go_simp; with_reducible rfl)⟩, ?_⟩
  simp only [Act.put, List.setIfInBounds_toArray, List.set_cons_zero, List.set_cons_succ]
  refine ⟨_, rfl, ?_⟩
  refine wpList_own (by rfl) ?_
  have hbd : Below w7.heap.size w7 w7.drew := ⟨rfl, rfl, rfl, Nat.le_refl _, fun _ _ => rfl⟩
  have qa8 := qa7.keep hbd
  have qx8 := qx7.keep hbd
  have qy8 := qy7.keep hbd
  have qp8 := qp7.keep hbd
  have hb8 := hb7.trans (hbd.mono (HSS.out _ hb7))
  clear hbd hb7 qa7 qx7 qy7 qp7
  generalize w7.drew = w8 at *
  go_wp2_with (first
    | (go_at_call 41
       refine (P1.out _ _ qx8).mono ?_
       rintro e w9 ⟨As, cs, rfl, hF, hq⟩
       have qa9 := qa8.keep hq
       have qx9 := qx8.keep hq
       have qy9 := qy8.keep hq
       have qp9 := qp8.keep hq
       have hb9 := hb8.trans (hq.mono (HSS.out _ hb8))
       have hF2 := hF.rd
       clear hq hb8 qa8 qx8 qy8 qp8))
  simp only [quietThen, List.drop_succ_cons, List.drop_zero]
  intro I hI' fw hf hback
  repeat (go_big_quiet_step (fail))
  refine wpQuiet_nil ?_
  intro w10 hq
  have hF4 := rd_here hF2 hq
  have qa10 := qa9.keep hq
  have qx10 := qx9.keep hq
  have qy10 := qy9.keep hq
  have qp10 := qp9.keep hq
  have hb10 := hb9.trans (hq.mono (HSS.out _ hb9))
  clear hf hback hq hF hF2 hb9 qa9 qx9 qy9 qp9
  go_wp2_with (first
    | (go_at_call 42
       refine (P2.out _ _ _ _ hF4 qp10).mono ?_
       rintro e w11 ⟨rfl, hq⟩
       have qa11 := qa10.keep hq
       have qx11 := qx10.keep hq
       have qy11 := qy10.keep hq
       have qp11 := qp10.keep hq
       have hb11 := hb10.trans (hq.mono (HSS.out _ hb10))
       clear hq hb10 qa10 qx10 qy10 qp10))
  go_wp2
  refine wp_fam_all (by kernel_rfl) (by kernel_rfl) (fun I hI' fw hf hback => ?_)
  have HGf : Keep (∀ j, Glob (fw j)) := ⟨fun j => HG.out _ (hb11.trans ((hf j).mono (HSS.out _ hb11)))⟩
  have c0 : ∀ j, (fw j).cell? ⟨w2.heap.size, 0, none⟩ = some (.int .u64 x0) := fun j => by rw [(qx11.keep (hf j)).val (i := 0) (by rw [Lx.out]; decide), hx0]
  repeat (first
    | (go_big_quiet_want
       refine quiet_load_seg 25 (.tmp 1) (by rfl) (S) 0 6 (by rfl) 25 .u64 a a _ (fun w' ⟨i, hi⟩ => by rw [hi]; exact qa11.keep (hf i)) Tryd.underlying25 rfl (by kernel_rfl) (by rw [List.drop_zero, take_all La.out]) (by rw [La.out]; omega) ?_
       simp only [Act.put, List.setIfInBounds_toArray, List.set_cons_zero, List.set_cons_succ]
       go_big_quiet_on)
    | (go_big_quiet_want
       refine quiet_load_seg 25 (.tmp 4) (by rfl) (w2.heap.size) 0 6 (by rfl) 25 .u64 x x _ (fun w' ⟨i, hi⟩ => by rw [hi]; exact qx11.keep (hf i)) Tryd.underlying25 rfl (by kernel_rfl) (by rw [List.drop_zero, take_all Lx.out]) (by rw [Lx.out]; omega) ?_
       simp only [Act.put, List.setIfInBounds_toArray, List.set_cons_zero, List.set_cons_succ]
       go_big_quiet_on)
    | (go_big_quiet_want
       refine quiet_load_seg 25 (.tmp 5) (by rfl) (w4.heap.size) 0 6 (by rfl) 25 .u64 y y _ (fun w' ⟨i, hi⟩ => by rw [hi]; exact qy11.keep (hf i)) Tryd.underlying25 rfl (by kernel_rfl) (by rw [List.drop_zero, take_all Ly.out]) (by rw [Ly.out]; omega) ?_
       simp only [Act.put, List.setIfInBounds_toArray, List.set_cons_zero, List.set_cons_succ]
       go_big_quiet_on)
    | go_big_quiet_step (first | fail | (go_at_call 48; with_reducible exact calls_fam hf hback (G1.out _ (HGf.out _))) | (go_at_call 48; with_reducible exact calls_fam hf hback (G2.out _ (HGf.out _))) | (go_at_call 48; with_reducible exact calls_fam hf hback (G3.out _ (HGf.out _))) | (go_at_call 50; with_reducible exact calls_fam hf hback (B1.out _ (HGf.out _))) | (go_at_call 50; with_reducible exact calls_fam hf hback (B2.out _ (HGf.out _))) | (go_at_call 50; with_reducible exact calls_fam hf hback (B3.out _ (HGf.out _)))))
  refine wpQuiet_nil ?_
  intro w12 hq
  have qa12 := qa11.keep hq
  have qx12 := qx11.keep hq
  have qy12 := qy11.keep hq
  have qp12 := qp11.keep hq
  have hb12 := hb11.trans (hq.mono (HSS.out _ hb11))
  clear c0 HGf hf hback hq hb11 qa11 qx11 qy11 qp11 
  go_wp2
  go_ret
  exact ⟨rfl, hb12⟩

set_option maxRecDepth 100000 in
set_option maxHeartbeats 4000000 in
theorem sides_10 (a : List Int) (hla : a.length = 6) (hwa : Words a) (h : num a % PP ≠ 0) (h1 : sgn (num a) = 1) (h2 : big (num a) = false) (w : World) (hG : Glob w) : Calls Tryd.prog 17 #[.agg (vals .u64 a)] w fun e w' => e = .returned (.bool true) ∧ Below w.heap.size w w' := by
  have h3 : sgn (-num a) = 0 := by rw [sgn_neg h, h1]; rfl
  have h4 : big (-num a) = true := by rw [big_neg h, h2]; rfl
  obtain ⟨t1, t2, t3, t4⟩ := two_sum (num a)
  have t5 := cmp_over h
  rw [h2] at t5
  have t6 : cmpL (addL (fe (num a)) (fe (num a))) pL = -1 := t5
  have hne : fe (num a) ≠ Z6 := fun e => h ((fe_zero_iff _).1 (by rw [fe_zero]; exact e))
  have R1 : Keep (∀ x : World, Glob x → _) := ⟨fun x (hG : Glob x) => fpReduce_c a hla hwa x hG⟩
  have N1 : Keep (∀ x : World, Glob x → _) := ⟨fun x (hG : Glob x) => fpNeg_c a hla hwa x hG⟩
  have G1 : Keep (∀ x : World, Glob x → _) := ⟨fun x (hG : Glob x) => sign_c (fe (num a)) (fe_len _) (fe_words _) x hG⟩
  rw [sgn_fe, h1] at G1
  have G2 : Keep (∀ x : World, Glob x → _) := ⟨fun x (hG : Glob x) => sign_c (fe (-num a)) (fe_len _) (fe_words _) x hG⟩
  rw [sgn_fe, h3] at G2
  have B1 : Keep (∀ x : World, Glob x → _) := ⟨fun x (hG : Glob x) => bigger_c (fe (num a)) (fe_len _) (fe_words _) x hG⟩
  rw [big_fe, h2] at B1
  have B2 : Keep (∀ x : World, Glob x → _) := ⟨fun x (hG : Glob x) => bigger_c (fe (-num a)) (fe_len _) (fe_words _) x hG⟩
  rw [big_fe, h4] at B2
  have B3 : Keep (∀ x : World, Glob x → _) := ⟨fun x (hG : Glob x) => bigger_c a hla hwa x hG⟩
  rw [h2] at B3
  have G3 : Keep (∀ x : World, Glob x → _) := ⟨fun x (hG : Glob x) => sign_c a hla hwa x hG⟩
  rw [h1] at G3
  have wx : Words (fe (num a)) := fe_words _
  have hx2 := sgn_nth (num a)
  rw [h1] at hx2
  obtain ⟨x, hx⟩ : ∃ o, fe (num a) = o := ⟨_, rfl⟩
  have Lx : Keep (x.length = 6) := ⟨by rw [← hx]; exact fe_len _⟩
  have Ex := eq6 x Lx.out
  obtain ⟨y, hy⟩ : ∃ o, fe (-num a) = o := ⟨_, rfl⟩
  have Ly : Keep (y.length = 6) := ⟨by rw [← hy]; exact fe_len _⟩
  have Ey := eq6 y Ly.out
  rw [hx] at R1 G1 B1 t1 t2 t3 t4 t6 wx hx2 hne
  rw [hy] at N1 G2 B2
  obtain ⟨d, hd⟩ : ∃ o, addL x x = o := ⟨_, rfl⟩
  rw [hd] at t2 t3 t4 t6
  have LP : Keep (pL.length = 6) := ⟨rfl⟩
  have EN : ∀ w : World, (Op.equalIn 10000 25 (.agg (vals .u64 x)) (.agg (vals .u64 Z6))).run Tryd.prog w = .ok false w := fun w => by rw [eqn6' x Z6 Lx.out rfl, decide_eq_false hne]
  have P1 : Keep (∀ (x' : World) (g : Nat), Has x' g 25 (vals .u64 x) → Calls Tryd.prog 41 #[.slice (some ⟨g, 0, none⟩) 6 6, .slice (some ⟨g, 0, none⟩) 6 6] x' fun e w'' => ∃ A'' c'', e = .returned (.tuple #[.slice A'' 6 c'', .int .u64 0]) ∧ Frs w'' x'.heap.size A'' 6 .u64 d ∧ Below x'.heap.size x' w'') := ⟨fun x' g h => by
    have hr := Rd.of_has h h.lt (by rw [List.drop_zero, take_all Lx.out]) (by rw [Lx.out]; omega)
    have h1 := add_c (some ⟨g, 0, none⟩) 6 6 x (some ⟨g, 0, none⟩) 6 6 x x'.heap.size x' hr wx hr wx (Nat.le_refl _) (by omega) (by omega)
    rw [hd, t1, Nat.max_self] at h1
    exact h1⟩
  have P2 : Keep (∀ (x' : World) (A : Option Addr) (c g : Nat), Rd x' x'.heap.size A 6 .u64 d → Has x' g 25 (vals .u64 pL) → Calls Tryd.prog 42 #[.slice A 6 c, .slice (some ⟨g, 0, none⟩) 6 6] x' fun e w'' => e = .returned (.int .i64 (-1)) ∧ Below x'.heap.size x' w'') := ⟨fun x' A c g h h' => by
    have h1 := cmp_c A 6 c d (some ⟨g, 0, none⟩) 6 6 pL x'.heap.size x' h t3 (Rd.of_has h' h'.lt (by rfl) (by decide)) pL_words (Nat.le_refl _) (by omega) (by omega)
    rw [t6] at h1
    exact h1⟩
  obtain ⟨x0, hx0⟩ : ∃ x', nth x 0 = x' := ⟨_, rfl⟩
  have b0 := wx 0
  rw [hx0] at hx2 b0
  have La : Keep (a.length = 6) := ⟨hla⟩
  have Lo : Keep (Z6.length = 6) := ⟨rfl⟩
  have hgd := gd6
  obtain ⟨S, hS⟩ : ∃ S, w.heap.size = S := ⟨_, rfl⟩
  have qa0 : Has (w.alloc (.cells (vals .u64 a) 25)) (S) 25 (vals .u64 a) := by exact (Has.new' _ hS.symm _ _)
  have hb0 : Below S w (w.alloc (.cells (vals .u64 a) 25)) := by rw [← hS]; exact ((Below.refl _ _).alloc (Nat.le_refl _) _)
  have hsz0 : (w.alloc (.cells (vals .u64 a) 25)).heap.size = S + 1 := by simp only [World.size_alloc, hS]
  have HS0 : Keep (S ≤ w.heap.size) := ⟨by omega⟩
  have HSS : Keep (∀ x : World, Below S w x → S ≤ x.heap.size) := ⟨fun x hb => Nat.le_trans HS0.out hb.size⟩
  have HG : Keep (∀ x : World, Below S w x → Glob x) := ⟨fun x hb => hG.keep (by rw [hS]; exact hb)⟩
  rw [hS]
  clear h hla hwa hG h1 h2 h3 h4 t1 t2 t3 t4 t5 t6 hne wx hx hy hd
  go_enter Tryd.func17, Tryd.ntmps17
  go_wp2_with (first
    | (refine store_abs2 (by rfl) 25 (.tmp 6) (.tmp 29) (by rfl) (by rfl) (w6.heap.size) (vals .u64 pL) (by rfl) (by rfl) 25 (vals .u64 Z6) (Has.new' _ rfl _ _) (by rw [vals_size, LP.out]; kernel_rfl) (by first | rfl | (rw [vals_size, vals_size, LP.out]; rfl)) vals_one ?_
       intro w7 qp7 hkeep hbg
       have hbe := ((Below.refl (w6).heap.size (w6)).alloc (Nat.le_refl _) (.cells (vals .u64 Z6) 25)).trans hbg
       have Nap : Keep (S < w6.heap.size) := ⟨qa6.lt⟩
       have Nxp : Keep (w2.heap.size < w6.heap.size) := ⟨qx6.lt⟩
       have Nyp : Keep (w4.heap.size < w6.heap.size) := ⟨qy6.lt⟩
       have Mp : Keep (S ≤ w6.heap.size) := ⟨HSS.out _ hb6⟩
       have qa7 := qa6.keep hbe
       have qx7 := qx6.keep hbe
       have qy7 := qy6.keep hbe
       have hb7 := hb6.trans (hbe.mono (HSS.out _ hb6))
       clear hkeep hbg hbe hb6 qa6 qx6 qy6)
    | (go_at_call 19
       refine (fpP_c _ (HG.out _ hb5)).mono ?_
       rintro e w6 ⟨rfl, hq⟩
       have qa6 := qa5.keep hq
       have qx6 := qx5.keep hq
       have qy6 := qy5.keep hq
       have hb6 := hb5.trans (hq.mono (HSS.out _ hb5))
       clear hq hb5 qa5 qx5 qy5)
    | (refine wpList_buildTo (by rfl) 25 #[] (by rfl) (some 16) (by rfl) (vals .u64 Z6) (by kernel_rfl) ?_)
    | (refine wpList_load_row rfl 25 (.tmp 4) rfl (w2.heap.size) rfl _ _ _ _ qx5.eq Tryd.underlying25 rfl (by rw [vals_size, Lx.out]; kernel_rfl) ?_)
    | (refine store_abs2 (by rfl) 25 (.tmp 5) (.tmp 14) (by rfl) (by rfl) (w4.heap.size) (vals .u64 y) (by rfl) (by rfl) 25 (vals .u64 Z6) (Has.new' _ rfl _ _) (by rw [vals_size, Ly.out]; kernel_rfl) (by first | rfl | (rw [vals_size, vals_size, Ly.out]; rfl)) vals_one ?_
       intro w5 qy5 hkeep hbg
       have hbe := ((Below.refl (w4).heap.size (w4)).alloc (Nat.le_refl _) (.cells (vals .u64 Z6) 25)).trans hbg
       have Nay : Keep (S < w4.heap.size) := ⟨qa4.lt⟩
       have Nxy : Keep (w2.heap.size < w4.heap.size) := ⟨qx4.lt⟩
       have My : Keep (S ≤ w4.heap.size) := ⟨HSS.out _ hb4⟩
       have qa5 := qa4.keep hbe
       have qx5 := qx4.keep hbe
       have hb5 := hb4.trans (hbe.mono (HSS.out _ hb4))
       clear hkeep hbg hbe hb4 qa4 qx4)
    | (go_at_call 27
       refine (N1.out _ (HG.out _ hb3)).mono ?_
       rintro e w4 ⟨rfl, hq⟩
       have qa4 := qa3.keep hq
       have qx4 := qx3.keep hq
       have hb4 := hb3.trans (hq.mono (HSS.out _ hb3))
       clear hq hb3 qa3 qx3)
    | (refine wpList_load_row rfl 25 (.tmp 1) rfl (S) rfl _ _ _ _ qa3.eq Tryd.underlying25 rfl (by rw [vals_size, La.out]; kernel_rfl) ?_)
    | (refine store_abs2 (by rfl) 25 (.tmp 4) (.tmp 12) (by rfl) (by rfl) (w2.heap.size) (vals .u64 x) (by rfl) (by rfl) 25 (vals .u64 Z6) (Has.new' _ rfl _ _) (by rw [vals_size, Lx.out]; kernel_rfl) (by first | rfl | (rw [vals_size, vals_size, Lx.out]; rfl)) vals_one ?_
       intro w3 qx3 hkeep hbg
       have hbe := ((Below.refl (w2).heap.size (w2)).alloc (Nat.le_refl _) (.cells (vals .u64 Z6) 25)).trans hbg
       have Nax : Keep (S < w2.heap.size) := ⟨qa2.lt⟩
       have Mx : Keep (S ≤ w2.heap.size) := ⟨HSS.out _ hb2⟩
       have qa3 := qa2.keep hbe
       have hb3 := hb2.trans (hbe.mono (HSS.out _ hb2))
       clear hkeep hbg hbe hb2 qa2)
    | (go_at_call 21
       refine (R1.out _ (HG.out _ hb1)).mono ?_
       rintro e w2 ⟨rfl, hq⟩
       have qa2 := qa1.keep hq
       have hb2 := hb1.trans (hq.mono (HSS.out _ hb1))
       clear hq hb1 qa1)
    | (refine wpList_load_row rfl 25 (.tmp 1) rfl (S) rfl _ _ _ _ qa1.eq Tryd.underlying25 rfl (by rw [vals_size, La.out]; kernel_rfl) ?_)
    | (go_at_call 43
       refine (awake_c _ (HG.out _ hb0)).mono ?_
       rintro e w1 ⟨rfl, hq⟩
       have qa1 := qa0.keep hq
       have hb1 := hb0.trans (hq.mono (HSS.out _ hb0))
       clear hq hb0 qa0))
  refine wp_one [0, 1] 2 (by kernel_rfl) (by rfl) (by kernel_rfl) (by kernel_rfl) (fun _ _ d _ _ h => by cases d <;> exact h) ?_
  simp only [List.filterMap_cons, List.filterMap_nil, List.getElem?_cons_zero, List.getElem?_cons_succ]
  refine ⟨_, Or.inl ⟨by rfl, fun w => (by go_simp; with_reducible rfl)⟩, ?_⟩
  simp only [Act.put, List.setIfInBounds_toArray, List.set_cons_zero, List.set_cons_succ]
  refine ⟨_, Or.inl ⟨by rfl, fun w => (by go_simp; with_reducible rfl)⟩, ?_⟩
  simp only [Act.put, List.setIfInBounds_toArray, List.set_cons_zero, List.set_cons_succ]
  refine ⟨_, rfl, ?_⟩
  refine wpList_own (by rfl) ?_
  have hbd : Below w7.heap.size w7 w7.drew := ⟨rfl, rfl, rfl, Nat.le_refl _, fun _ _ => rfl⟩
  have qa8 := qa7.keep hbd
  have qx8 := qx7.keep hbd
  have qy8 := qy7.keep hbd
  have qp8 := qp7.keep hbd
  have hb8 := hb7.trans (hbd.mono (HSS.out _ hb7))
  clear hbd hb7 qa7 qx7 qy7 qp7
  generalize w7.drew = w8 at *
  go_wp2_with (first
    | (go_at_call 41
       refine (P1.out _ _ qx8).mono ?_
       rintro e w9 ⟨As, cs, rfl, hF, hq⟩
       have qa9 := qa8.keep hq
       have qx9 := qx8.keep hq
       have qy9 := qy8.keep hq
       have qp9 := qp8.keep hq
       have hb9 := hb8.trans (hq.mono (HSS.out _ hb8))
       have hF2 := hF.rd
       clear hq hb8 qa8 qx8 qy8 qp8))
  simp only [quietThen, List.drop_succ_cons, List.drop_zero]
  intro I hI' fw hf hback
  repeat (go_big_quiet_step (fail))
  refine wpQuiet_nil ?_
  intro w10 hq
  have hF4 := rd_here hF2 hq
  have qa10 := qa9.keep hq
  have qx10 := qx9.keep hq
  have qy10 := qy9.keep hq
  have qp10 := qp9.keep hq
  have hb10 := hb9.trans (hq.mono (HSS.out _ hb9))
  clear hf hback hq hF hF2 hb9 qa9 qx9 qy9 qp9
  go_wp2_with (first
    | (go_at_call 42
       refine (P2.out _ _ _ _ hF4 qp10).mono ?_
       rintro e w11 ⟨rfl, hq⟩
       have qa11 := qa10.keep hq
       have qx11 := qx10.keep hq
       have qy11 := qy10.keep hq
       have qp11 := qp10.keep hq
       have hb11 := hb10.trans (hq.mono (HSS.out _ hb10))
       clear hq hb10 qa10 qx10 qy10 qp10))
  go_wp2
  refine wp_fam_all (by kernel_rfl) (by kernel_rfl) (fun I hI' fw hf hback => ?_)
  have HGf : Keep (∀ j, Glob (fw j)) := ⟨fun j => HG.out _ (hb11.trans ((hf j).mono (HSS.out _ hb11)))⟩
  have c0 : ∀ j, (fw j).cell? ⟨w2.heap.size, 0, none⟩ = some (.int .u64 x0) := fun j => by rw [(qx11.keep (hf j)).val (i := 0) (by rw [Lx.out]; decide), hx0]
  repeat (first
    | (go_big_quiet_want
       refine quiet_load_seg 25 (.tmp 1) (by rfl) (S) 0 6 (by rfl) 25 .u64 a a _ (fun w' ⟨i, hi⟩ => by rw [hi]; exact qa11.keep (hf i)) Tryd.underlying25 rfl (by kernel_rfl) (by rw [List.drop_zero, take_all La.out]) (by rw [La.out]; omega) ?_
       simp only [Act.put, List.setIfInBounds_toArray, List.set_cons_zero, List.set_cons_succ]
       go_big_quiet_on)
    | (go_big_quiet_want
       refine quiet_load_seg 25 (.tmp 4) (by rfl) (w2.heap.size) 0 6 (by rfl) 25 .u64 x x _ (fun w' ⟨i, hi⟩ => by rw [hi]; exact qx11.keep (hf i)) Tryd.underlying25 rfl (by kernel_rfl) (by rw [List.drop_zero, take_all Lx.out]) (by rw [Lx.out]; omega) ?_
       simp only [Act.put, List.setIfInBounds_toArray, List.set_cons_zero, List.set_cons_succ]
       go_big_quiet_on)
    | (go_big_quiet_want
       refine quiet_load_seg 25 (.tmp 5) (by rfl) (w4.heap.size) 0 6 (by rfl) 25 .u64 y y _ (fun w' ⟨i, hi⟩ => by rw [hi]; exact qy11.keep (hf i)) Tryd.underlying25 rfl (by kernel_rfl) (by rw [List.drop_zero, take_all Ly.out]) (by rw [Ly.out]; omega) ?_
       simp only [Act.put, List.setIfInBounds_toArray, List.set_cons_zero, List.set_cons_succ]
       go_big_quiet_on)
    | go_big_quiet_step (first | fail | (go_at_call 48; with_reducible exact calls_fam hf hback (G1.out _ (HGf.out _))) | (go_at_call 48; with_reducible exact calls_fam hf hback (G2.out _ (HGf.out _))) | (go_at_call 48; with_reducible exact calls_fam hf hback (G3.out _ (HGf.out _))) | (go_at_call 50; with_reducible exact calls_fam hf hback (B1.out _ (HGf.out _))) | (go_at_call 50; with_reducible exact calls_fam hf hback (B2.out _ (HGf.out _))) | (go_at_call 50; with_reducible exact calls_fam hf hback (B3.out _ (HGf.out _)))))
  refine wpQuiet_nil ?_
  intro w12 hq
  have qa12 := qa11.keep hq
  have qx12 := qx11.keep hq
  have qy12 := qy11.keep hq
  have qp12 := qp11.keep hq
  have hb12 := hb11.trans (hq.mono (HSS.out _ hb11))
  clear c0 HGf hf hback hq hb11 qa11 qx11 qy11 qp11 
  go_wp2
  go_ret
  exact ⟨rfl, hb12⟩

theorem sides_w (a : List Int) (hla : a.length = 6) (hwa : Words a) (w : World) (hG : Glob w) : Calls Tryd.prog 17 #[.agg (vals .u64 a)] w fun e w' => e = .returned (.bool true) ∧ Below w.heap.size w w' := by
  by_cases h : num a % PP = 0
  · exact sides_zero a hla hwa h w hG
  · rcases sgn_or (num a) with h1 | h1 <;> cases h2 : big (num a)
    · exact sides_00 a hla hwa h h1 h2 w hG
    · exact sides_01 a hla hwa h h1 h2 w hG
    · exact sides_10 a hla hwa h h1 h2 w hG
    · exact sides_11 a hla hwa h h1 h2 w hG

end Go.Proofs.YtpkfknmpegieaaaDoor.Fpr
