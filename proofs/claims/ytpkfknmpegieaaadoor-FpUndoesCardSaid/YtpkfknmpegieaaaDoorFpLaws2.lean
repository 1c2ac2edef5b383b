/-
  Own text. The walk of layer 4's statement that what is added and multiplied is undone.
-/
import Derived.Test.YtpkfknmpegieaaaDoorFpAwake
namespace Go.Proofs.YtpkfknmpegieaaaDoor.Fp
set_option linter.unusedVariables false
set_option linter.unusedSimpArgs false
open Go Go.RowKit Go.Proofs.YtpkfknmpegieaaaDoor.Reg Go.Proofs.YtpkfknmpegieaaaDoor.Base Go.Proofs.YtpkfknmpegieaaaDoor.Limb Go.Proofs.YtpkfknmpegieaaaDoor.Bits

theorem eqn6 (l m : List Int) (hl : l.length = 6) (hm : m.length = 6) : ∀ w : World, (Op.equalIn 10000 25 (.agg (vals .u64 l)) (.agg (vals .u64 m))).run Tryd.prog w = .ok (decide (l = m)) w := fun w => by
  rw [equalIn_vals (d := 9998) Tryd.underlying25 Tryd.underlying23 (by kernel_rfl) (by kernel_rfl) hl hm]
theorem eqt6 {l m : List Int} (hl : l.length = 6) (hm : m.length = 6) (h : l = m) : ∀ w : World, (Op.equalIn 10000 25 (.agg (vals .u64 l)) (.agg (vals .u64 m))).run Tryd.prog w = .ok true w := fun w => by
  rw [eqn6 l m hl hm, decide_eq_true h]
theorem eqf6 {l m : List Int} (hl : l.length = 6) (hm : m.length = 6) (h : l ≠ m) : ∀ w : World, (Op.equalIn 10000 25 (.agg (vals .u64 l)) (.agg (vals .u64 m))).run Tryd.prog w = .ok false w := fun w => by
  rw [eqn6 l m hl hm, decide_eq_false h]

set_option maxRecDepth 100000 in
set_option maxHeartbeats 4000000 in
theorem fpUndoes_nn (a : List Int) (hla : a.length = 6) (hwa : Words a) (b : List Int) (hlb : b.length = 6) (hwb : Words b) (hx : num a % PP ≠ 0) (hy : num b % PP ≠ 0) (w : World) (hG : GlobD w) : Calls Tryd.prog 9 #[.agg (vals .u64 a), .agg (vals .u64 b)] w fun e w' => e = .returned (.bool true) ∧ Below w.heap.size w w' := by
  have h_la := hla
  have h_wa := hwa
  have h_lb := hlb
  have h_wb := hwb
  obtain ⟨x, hx_⟩ : ∃ o, fe (num a) = o := ⟨_, rfl⟩
  have h_lx : x.length = 6 := by rw [← hx_]; exact fe_len _
  have h_wx : Words x := by rw [← hx_]; exact fe_words _
  have Ex := eq6 x h_lx
  have Lx : Keep (x.length = 6) := ⟨h_lx⟩
  obtain ⟨y, hy_⟩ : ∃ o, fe (num b) = o := ⟨_, rfl⟩
  have h_ly : y.length = 6 := by rw [← hy_]; exact fe_len _
  have h_wy : Words y := by rw [← hy_]; exact fe_words _
  have Ey := eq6 y h_ly
  have Ly : Keep (y.length = 6) := ⟨h_ly⟩
  obtain ⟨s, hs⟩ : ∃ o, fe (num a + num b) = o := ⟨_, rfl⟩
  have h_ls : s.length = 6 := by rw [← hs]; exact fe_len _
  have h_ws : Words s := by rw [← hs]; exact fe_words _
  have Es := eq6 s h_ls
  have Ls : Keep (s.length = 6) := ⟨h_ls⟩
  obtain ⟨n, hn⟩ : ∃ o, fe (-num a) = o := ⟨_, rfl⟩
  have h_ln : n.length = 6 := by rw [← hn]; exact fe_len _
  have h_wn : Words n := by rw [← hn]; exact fe_words _
  have En := eq6 n h_ln
  have Ln : Keep (n.length = 6) := ⟨h_ln⟩
  obtain ⟨d, hd⟩ : ∃ o, fe (num a - num b) = o := ⟨_, rfl⟩
  have h_ld : d.length = 6 := by rw [← hd]; exact fe_len _
  have h_wd : Words d := by rw [← hd]; exact fe_words _
  have Ed := eq6 d h_ld
  have Ld : Keep (d.length = 6) := ⟨h_ld⟩
  obtain ⟨e1, he1⟩ : ∃ o, fe (num b - num a) = o := ⟨_, rfl⟩
  have h_le1 : e1.length = 6 := by rw [← he1]; exact fe_len _
  have h_we1 : Words e1 := by rw [← he1]; exact fe_words _
  have Ee1 := eq6 e1 h_le1
  have Le1 : Keep (e1.length = 6) := ⟨h_le1⟩
  obtain ⟨i, hi⟩ : ∃ o, fe (pw (num b) (PP - 2)) = o := ⟨_, rfl⟩
  have h_li : i.length = 6 := by rw [← hi]; exact fe_len _
  have h_wi : Words i := by rw [← hi]; exact fe_words _
  have Ei := eq6 i h_li
  have Li : Keep (i.length = 6) := ⟨h_li⟩
  obtain ⟨m, hm⟩ : ∃ o, fe (num a * num b) = o := ⟨_, rfl⟩
  have h_lm : m.length = 6 := by rw [← hm]; exact fe_len _
  have h_wm : Words m := by rw [← hm]; exact fe_words _
  have Em := eq6 m h_lm
  have Lm : Keep (m.length = 6) := ⟨h_lm⟩
  have eA1 : fe (num a) = x := by exact hx_
  have A1 : Keep _ := ⟨fun w (hG : Glob w) => fpReduce_c a h_la h_wa w hG⟩
  rw [eA1] at A1
  have eA2 : fe (num b) = y := by exact hy_
  have A2 : Keep _ := ⟨fun w (hG : Glob w) => fpReduce_c b h_lb h_wb w hG⟩
  rw [eA2] at A2
  have eA3 : fe (num a + num b) = s := by exact hs
  have A3 : Keep _ := ⟨fun w (hG : Glob w) => fpAdd_c a h_la h_wa b h_lb h_wb w hG⟩
  rw [eA3] at A3
  have eA4 : fe (num s - num b) = x := by rw [← hs, fe_subl, ← hx_]; congr 1; omega
  have A4 : Keep _ := ⟨fun w (hG : Glob w) => fpSub_c s h_ls h_ws b h_lb h_wb w hG⟩
  rw [eA4] at A4
  have eA5 : fe (-num a) = n := by exact hn
  have A5 : Keep _ := ⟨fun w (hG : Glob w) => fpNeg_c a h_la h_wa w hG⟩
  rw [eA5] at A5
  have eA6 : fe (num a + num n) = Z6 := by rw [← hn, fe_addr, ← fe_zero]; congr 1; omega
  have A6 : Keep _ := ⟨fun w (hG : Glob w) => fpAdd_c a h_la h_wa n h_ln h_wn w hG⟩
  rw [eA6] at A6
  have eA7 : fe (num a - num b) = d := by exact hd
  have A7 : Keep _ := ⟨fun w (hG : Glob w) => fpSub_c a h_la h_wa b h_lb h_wb w hG⟩
  rw [eA7] at A7
  have eA8 : fe (num b - num a) = e1 := by exact he1
  have A8 : Keep _ := ⟨fun w (hG : Glob w) => fpSub_c b h_lb h_wb a h_la h_wa w hG⟩
  rw [eA8] at A8
  have eA9 : fe (-num e1) = d := by rw [← he1, fe_neg, ← hd]; congr 1; omega
  have A9 : Keep _ := ⟨fun w (hG : Glob w) => fpNeg_c e1 h_le1 h_we1 w hG⟩
  rw [eA9] at A9
  have eA10 : fe (pw (num b) (PP - 2)) = i := by exact hi
  have A10 : Keep _ := ⟨fun w (hG : GlobD w) => fpInv_c b h_lb h_wb w hG⟩
  rw [eA10] at A10
  have eA11 : fe (num a * num b) = m := by exact hm
  have A11 : Keep _ := ⟨fun w (hG : Glob w) => fpMul_c a h_la h_wa b h_lb h_wb w hG⟩
  rw [eA11] at A11
  have eA12 : fe (num b * num i) = [1, 0, 0, 0, 0, 0] := by rw [← hi, fe_inv hy, fe_one]
  have A12 : Keep _ := ⟨fun w (hG : Glob w) => fpMul_c b h_lb h_wb i h_li h_wi w hG⟩
  rw [eA12] at A12
  have eA13 : fe (num m * num i) = x := by rw [← hm, ← hi, fe_mull, fe_mulr, Int.mul_assoc, ← fe_mulr, fe_inverse hy, fe_mulr, Int.mul_one]; exact hx_
  have A13 : Keep _ := ⟨fun w (hG : Glob w) => fpMul_c m h_lm h_wm i h_li h_wi w hG⟩
  rw [eA13] at A13
  have eA14 : fe (pw (num i) (PP - 2)) = y := by rw [← hi, fe_inv_inv]; exact hy_
  have A14 : Keep _ := ⟨fun w (hG : GlobD w) => fpInv_c i h_li h_wi w hG⟩
  rw [eA14] at A14
  have hlZ : Z6.length = 6 := rfl
  have LZ : Keep (Z6.length = 6) := ⟨rfl⟩
  have Lone : Keep (([1, 0, 0, 0, 0, 0] : List Int).length = 6) := ⟨rfl⟩
  have EZ := eq6 Z6 rfl
  have E1 := eq6 [1, 0, 0, 0, 0, 0] rfl
  have EX := eqf6 h_lx hlZ (by rw [← hx_, ← fe_zero]; exact fun h => hx ((fe_zero_iff _).1 h))
  have EY := eqf6 h_ly hlZ (by rw [← hy_, ← fe_zero]; exact fun h => hy ((fe_zero_iff _).1 h))
  have EM := eqf6 h_lm hlZ (by rw [← hm, ← fe_zero]; exact fun h => ((fe_prod_zero _ _).1 h).elim (fun h => hx ((fe_zero_iff _).1 h)) (fun h => hy ((fe_zero_iff _).1 h)))
  have hgd := gd6
  have HG : Keep (∀ x : World, Below w.heap.size w x → Glob x) := ⟨fun x h => hG.toGlob.keep h⟩
  have HD : Keep (∀ x : World, Below w.heap.size w x → GlobD x) := ⟨fun x h => hG.keep h⟩
  clear hG
  have qa0 : Has ((w.alloc (.cells (vals .u64 a) 25)).alloc (.cells (vals .u64 b) 25)) (w.heap.size) 25 (vals .u64 a) := ((Has.new _ _ _).alloc _)
  have qb0 : Has ((w.alloc (.cells (vals .u64 a) 25)).alloc (.cells (vals .u64 b) 25)) (w.heap.size + 1) 25 (vals .u64 b) := (Has.new' _ (by simp) _ _)
  have hb0 : Below w.heap.size w ((w.alloc (.cells (vals .u64 a) 25)).alloc (.cells (vals .u64 b) 25)) := (((Below.refl _ _).alloc (by simp <;> omega) _).alloc (by simp <;> omega) _)
  have La : Keep _ := ⟨hla⟩
  have Wa : Keep _ := ⟨hwa⟩
  have Lb : Keep _ := ⟨hlb⟩
  have Wb : Keep _ := ⟨hwb⟩
  clear hx_ hy_ hx hy hs hn hd he1 hi hm h_ls h_ws h_ln h_wn h_ld h_wd h_le1 h_we1 h_li h_wi h_lm h_wm h_lx h_wx h_ly h_wy h_la h_wa h_lb h_wb eA1 eA2 eA3 eA4 eA5 eA6 eA7 eA8 eA9 eA10 eA11 eA12 eA13 eA14 hla hwa hlb hwb hlZ
  go_enter Tryd.func9, Tryd.ntmps9
  go_wp2_with (first
    | (refine wpList_buildTo (by rfl) 25 #[] (by rfl) (some 18) (by rfl) (vals .u64 Z6) (by kernel_rfl) ?_)
    | (refine store_abs2 (by rfl) 25 (.tmp 8) (.tmp 18) (by rfl) (by rfl) w5.heap.size (vals .u64 Z6) (by rfl) (by rfl) 25 (vals .u64 Z6) (Has.new' _ rfl _ _) (by rw [vals_size, LZ.out]; kernel_rfl) (by first | rfl | (rw [vals_size, vals_size, LZ.out]; rfl)) vals_one ?_
       intro w6 qz6 hkeep hbg
       have hbe := ((Below.refl w5.heap.size w5).alloc (Nat.le_refl _) (.cells (vals .u64 Z6) 25)).trans hbg
       have qa6 := qa5.keep hbe
       have qb6 := qb5.keep hbe
       have qx6 := qx5.keep hbe
       have qy6 := qy5.keep hbe
       have hb6 := hb5.trans (hbe.mono hb5.size)
       clear hkeep hbg hbe hb5 qa5 qb5 qx5 qy5)
    | (refine store_abs2 (by rfl) 25 (.tmp 7) (.tmp 17) (by rfl) (by rfl) w4.heap.size (vals .u64 y) (by rfl) (by rfl) 25 (vals .u64 Z6) (Has.new' _ rfl _ _) (by rw [vals_size, Ly.out]; kernel_rfl) (by first | rfl | (rw [vals_size, vals_size, Ly.out]; rfl)) vals_one ?_
       intro w5 qy5 hkeep hbg
       have hbe := ((Below.refl w4.heap.size w4).alloc (Nat.le_refl _) (.cells (vals .u64 Z6) 25)).trans hbg
       have qa5 := qa4.keep hbe
       have qb5 := qb4.keep hbe
       have qx5 := qx4.keep hbe
       have hb5 := hb4.trans (hbe.mono hb4.size)
       clear hkeep hbg hbe hb4 qa4 qb4 qx4)
    | (have q1 := f1
       go_at_call 21
       refine (A2.out _ (HG.out _ hb3)).mono ?_
       rintro e w4 ⟨rfl, hq⟩
       have qa4 := qa3.keep hq
       have qb4 := qb3.keep hq
       have qx4 := qx3.keep hq
       have hb4 := hb3.trans (hq.mono hb3.size)
       clear hq hb3 qa3 qb3 qx3)
    | (refine wpList_load_row rfl 25 (.tmp 3) rfl (w.heap.size + 1) rfl _ _ _ _ qb3.eq Tryd.underlying25 rfl (by rw [vals_size, Lb.out]; kernel_rfl) ?_)
    | (refine store_abs2 (by rfl) 25 (.tmp 6) (.tmp 15) (by rfl) (by rfl) w2.heap.size (vals .u64 x) (by rfl) (by rfl) 25 (vals .u64 Z6) (Has.new' _ rfl _ _) (by rw [vals_size, Lx.out]; kernel_rfl) (by first | rfl | (rw [vals_size, vals_size, Lx.out]; rfl)) vals_one ?_
       intro w3 qx3 hkeep hbg
       have hbe := ((Below.refl w2.heap.size w2).alloc (Nat.le_refl _) (.cells (vals .u64 Z6) 25)).trans hbg
       have qa3 := qa2.keep hbe
       have qb3 := qb2.keep hbe
       have hb3 := hb2.trans (hbe.mono hb2.size)
       clear hkeep hbg hbe hb2 qa2 qb2
       have f1 := True.intro)
    | (go_at_call 21
       refine (A1.out _ (HG.out _ hb1)).mono ?_
       rintro e w2 ⟨rfl, hq⟩
       have qa2 := qa1.keep hq
       have qb2 := qb1.keep hq
       have hb2 := hb1.trans (hq.mono hb1.size)
       clear hq hb1 qa1 qb1)
    | (refine wpList_load_row rfl 25 (.tmp 2) rfl (w.heap.size) rfl _ _ _ _ qa1.eq Tryd.underlying25 rfl (by rw [vals_size, La.out]; kernel_rfl) ?_)
    | (go_at_call 18
       refine (awake_c _ (HD.out _ hb0)).mono ?_
       rintro e w1 ⟨rfl, hq⟩
       have qa1 := qa0.keep hq
       have qb1 := qb0.keep hq
       have hb1 := hb0.trans (hq.mono hb0.size)
       clear hq hb0 qa0 qb0))
  refine wp_fam_all (by kernel_rfl) (by kernel_rfl) (fun I hI' fw hf hback => ?_)
  have HGf : Keep (∀ j, Glob (fw j)) := ⟨fun j => HG.out _ (hb6.trans ((hf j).mono hb6.size))⟩
  have HDf : Keep (∀ j, GlobD (fw j)) := ⟨fun j => HD.out _ (hb6.trans ((hf j).mono hb6.size))⟩
  repeat (first
    | (go_big_quiet_want
       refine quiet_load_seg 25 (.tmp 2) (by rfl) (w.heap.size) 0 6 (by rfl) 25 .u64 a a _ (fun w' ⟨i, hi⟩ => by rw [hi]; exact qa6.keep (hf i)) Tryd.underlying25 rfl (by kernel_rfl) (by rw [List.drop_zero, take_all La.out]) (by rw [La.out]; omega) ?_
       simp only [Act.put, List.setIfInBounds_toArray, List.set_cons_zero, List.set_cons_succ]
       go_big_quiet_on)
    | (go_big_quiet_want
       refine quiet_load_seg 25 (.tmp 3) (by rfl) (w.heap.size + 1) 0 6 (by rfl) 25 .u64 b b _ (fun w' ⟨i, hi⟩ => by rw [hi]; exact qb6.keep (hf i)) Tryd.underlying25 rfl (by kernel_rfl) (by rw [List.drop_zero, take_all Lb.out]) (by rw [Lb.out]; omega) ?_
       simp only [Act.put, List.setIfInBounds_toArray, List.set_cons_zero, List.set_cons_succ]
       go_big_quiet_on)
    | (go_big_quiet_want
       refine quiet_load_seg 25 (.tmp 6) (by rfl) (w2.heap.size) 0 6 (by rfl) 25 .u64 x x _ (fun w' ⟨i, hi⟩ => by rw [hi]; exact qx6.keep (hf i)) Tryd.underlying25 rfl (by kernel_rfl) (by rw [List.drop_zero, take_all Lx.out]) (by rw [Lx.out]; omega) ?_
       simp only [Act.put, List.setIfInBounds_toArray, List.set_cons_zero, List.set_cons_succ]
       go_big_quiet_on)
    | (go_big_quiet_want
       refine quiet_load_seg 25 (.tmp 7) (by rfl) (w4.heap.size) 0 6 (by rfl) 25 .u64 y y _ (fun w' ⟨i, hi⟩ => by rw [hi]; exact qy6.keep (hf i)) Tryd.underlying25 rfl (by kernel_rfl) (by rw [List.drop_zero, take_all Ly.out]) (by rw [Ly.out]; omega) ?_
       simp only [Act.put, List.setIfInBounds_toArray, List.set_cons_zero, List.set_cons_succ]
       go_big_quiet_on)
    | (go_big_quiet_want
       refine quiet_load_seg 25 (.tmp 8) (by rfl) (w5.heap.size) 0 6 (by rfl) 25 .u64 Z6 Z6 _ (fun w' ⟨i, hi⟩ => by rw [hi]; exact qz6.keep (hf i)) Tryd.underlying25 rfl (by kernel_rfl) (by rw [List.drop_zero, take_all LZ.out]) (by rw [LZ.out]; omega) ?_
       simp only [Act.put, List.setIfInBounds_toArray, List.set_cons_zero, List.set_cons_succ]
       go_big_quiet_on)
    | go_big_quiet_step (first | fail | (go_at_call 23; with_reducible exact calls_fam hf hback (A3.out _ (HGf.out _))) | (go_at_call 25; with_reducible exact calls_fam hf hback (A4.out _ (HGf.out _))) | (go_at_call 27; with_reducible exact calls_fam hf hback (A5.out _ (HGf.out _))) | (go_at_call 23; with_reducible exact calls_fam hf hback (A6.out _ (HGf.out _))) | (go_at_call 25; with_reducible exact calls_fam hf hback (A7.out _ (HGf.out _))) | (go_at_call 25; with_reducible exact calls_fam hf hback (A8.out _ (HGf.out _))) | (go_at_call 27; with_reducible exact calls_fam hf hback (A9.out _ (HGf.out _)))))
  refine wpQuiet_nil ?_
  intro w7 hq
  have qa7 := qa6.keep hq
  have qb7 := qb6.keep hq
  have qx7 := qx6.keep hq
  have qy7 := qy6.keep hq
  have qz7 := qz6.keep hq
  have hb7 := hb6.trans (hq.mono hb6.size)
  clear HDf HGf hf hback hq qa6 qb6 qx6 qy6 qz6 hb6 
  go_wp2_with (first
    | (refine store_abs2 (by rfl) 25 (.tmp 10) (.tmp 45) (by rfl) (by rfl) w8.heap.size (vals .u64 i) (by rfl) (by rfl) 25 (vals .u64 Z6) (Has.new' _ rfl _ _) (by rw [vals_size, Li.out]; kernel_rfl) (by first | rfl | (rw [vals_size, vals_size, Li.out]; rfl)) vals_one ?_
       intro w9 qi9 hkeep hbg
       have hbe := ((Below.refl w8.heap.size w8).alloc (Nat.le_refl _) (.cells (vals .u64 Z6) 25)).trans hbg
       have qa9 := qa8.keep hbe
       have qb9 := qb8.keep hbe
       have qx9 := qx8.keep hbe
       have qy9 := qy8.keep hbe
       have qz9 := qz8.keep hbe
       have hb9 := hb8.trans (hbe.mono hb8.size)
       clear hkeep hbg hbe hb8 qa8 qb8 qx8 qy8 qz8)
    | (go_at_call 31
       refine (A10.out _ (HD.out _ hb7)).mono ?_
       rintro e w8 ⟨rfl, hq⟩
       have qa8 := qa7.keep hq
       have qb8 := qb7.keep hq
       have qx8 := qx7.keep hq
       have qy8 := qy7.keep hq
       have qz8 := qz7.keep hq
       have hb8 := hb7.trans (hq.mono hb7.size)
       clear hq hb7 qa7 qb7 qx7 qy7 qz7)
    | (refine wpList_load_row rfl 25 (.tmp 3) rfl (w.heap.size + 1) rfl _ _ _ _ qb7.eq Tryd.underlying25 rfl (by rw [vals_size, Lb.out]; kernel_rfl) ?_))
  refine wp_fam_all (by kernel_rfl) (by kernel_rfl) (fun I hI' fw hf hback => ?_)
  have HGf : Keep (∀ j, Glob (fw j)) := ⟨fun j => HG.out _ (hb9.trans ((hf j).mono hb9.size))⟩
  have HDf : Keep (∀ j, GlobD (fw j)) := ⟨fun j => HD.out _ (hb9.trans ((hf j).mono hb9.size))⟩
  repeat (first
    | (go_big_quiet_want
       refine quiet_load_seg 25 (.tmp 2) (by rfl) (w.heap.size) 0 6 (by rfl) 25 .u64 a a _ (fun w' ⟨i, hi⟩ => by rw [hi]; exact qa9.keep (hf i)) Tryd.underlying25 rfl (by kernel_rfl) (by rw [List.drop_zero, take_all La.out]) (by rw [La.out]; omega) ?_
       simp only [Act.put, List.setIfInBounds_toArray, List.set_cons_zero, List.set_cons_succ]
       go_big_quiet_on)
    | (go_big_quiet_want
       refine quiet_load_seg 25 (.tmp 3) (by rfl) (w.heap.size + 1) 0 6 (by rfl) 25 .u64 b b _ (fun w' ⟨i, hi⟩ => by rw [hi]; exact qb9.keep (hf i)) Tryd.underlying25 rfl (by kernel_rfl) (by rw [List.drop_zero, take_all Lb.out]) (by rw [Lb.out]; omega) ?_
       simp only [Act.put, List.setIfInBounds_toArray, List.set_cons_zero, List.set_cons_succ]
       go_big_quiet_on)
    | (go_big_quiet_want
       refine quiet_load_seg 25 (.tmp 6) (by rfl) (w2.heap.size) 0 6 (by rfl) 25 .u64 x x _ (fun w' ⟨i, hi⟩ => by rw [hi]; exact qx9.keep (hf i)) Tryd.underlying25 rfl (by kernel_rfl) (by rw [List.drop_zero, take_all Lx.out]) (by rw [Lx.out]; omega) ?_
       simp only [Act.put, List.setIfInBounds_toArray, List.set_cons_zero, List.set_cons_succ]
       go_big_quiet_on)
    | (go_big_quiet_want
       refine quiet_load_seg 25 (.tmp 7) (by rfl) (w4.heap.size) 0 6 (by rfl) 25 .u64 y y _ (fun w' ⟨i, hi⟩ => by rw [hi]; exact qy9.keep (hf i)) Tryd.underlying25 rfl (by kernel_rfl) (by rw [List.drop_zero, take_all Ly.out]) (by rw [Ly.out]; omega) ?_
       simp only [Act.put, List.setIfInBounds_toArray, List.set_cons_zero, List.set_cons_succ]
       go_big_quiet_on)
    | (go_big_quiet_want
       refine quiet_load_seg 25 (.tmp 8) (by rfl) (w5.heap.size) 0 6 (by rfl) 25 .u64 Z6 Z6 _ (fun w' ⟨i, hi⟩ => by rw [hi]; exact qz9.keep (hf i)) Tryd.underlying25 rfl (by kernel_rfl) (by rw [List.drop_zero, take_all LZ.out]) (by rw [LZ.out]; omega) ?_
       simp only [Act.put, List.setIfInBounds_toArray, List.set_cons_zero, List.set_cons_succ]
       go_big_quiet_on)
    | (go_big_quiet_want
       refine quiet_load_seg 25 (.tmp 10) (by rfl) (w8.heap.size) 0 6 (by rfl) 25 .u64 i i _ (fun w' ⟨i, hi⟩ => by rw [hi]; exact qi9.keep (hf i)) Tryd.underlying25 rfl (by kernel_rfl) (by rw [List.drop_zero, take_all Li.out]) (by rw [Li.out]; omega) ?_
       simp only [Act.put, List.setIfInBounds_toArray, List.set_cons_zero, List.set_cons_succ]
       go_big_quiet_on)
    | (go_big_quiet_want
       refine quiet_build 25 #[(0, .const (.int .u64 1))] (by rfl) (vals .u64 [1, 0, 0, 0, 0, 0]) (by kernel_rfl) ?_
       simp only [Act.put, List.setIfInBounds_toArray, List.set_cons_zero, List.set_cons_succ]
       go_big_quiet_on)
    | go_big_quiet_step (first | fail | (go_at_call 29; with_reducible exact calls_fam hf hback (A12.out _ (HGf.out _))) | (go_at_call 29; with_reducible exact calls_fam hf hback (A11.out _ (HGf.out _))) | (go_at_call 29; with_reducible exact calls_fam hf hback (A13.out _ (HGf.out _)))))
  refine wpQuiet_nil ?_
  intro w10 hq
  have qa10 := qa9.keep hq
  have qb10 := qb9.keep hq
  have qx10 := qx9.keep hq
  have qy10 := qy9.keep hq
  have qz10 := qz9.keep hq
  have qi10 := qi9.keep hq
  have hb10 := hb9.trans (hq.mono hb9.size)
  clear HDf HGf hf hback hq qa9 qb9 qx9 qy9 qz9 qi9 hb9 
  go_wp2
  refine wp_fam_all (by kernel_rfl) (by kernel_rfl) (fun I hI' fw hf hback => ?_)
  have HGf : Keep (∀ j, Glob (fw j)) := ⟨fun j => HG.out _ (hb10.trans ((hf j).mono hb10.size))⟩
  have HDf : Keep (∀ j, GlobD (fw j)) := ⟨fun j => HD.out _ (hb10.trans ((hf j).mono hb10.size))⟩
  repeat (first
    | (go_big_quiet_want
       refine quiet_load_seg 25 (.tmp 2) (by rfl) (w.heap.size) 0 6 (by rfl) 25 .u64 a a _ (fun w' ⟨i, hi⟩ => by rw [hi]; exact qa10.keep (hf i)) Tryd.underlying25 rfl (by kernel_rfl) (by rw [List.drop_zero, take_all La.out]) (by rw [La.out]; omega) ?_
       simp only [Act.put, List.setIfInBounds_toArray, List.set_cons_zero, List.set_cons_succ]
       go_big_quiet_on)
    | (go_big_quiet_want
       refine quiet_load_seg 25 (.tmp 3) (by rfl) (w.heap.size + 1) 0 6 (by rfl) 25 .u64 b b _ (fun w' ⟨i, hi⟩ => by rw [hi]; exact qb10.keep (hf i)) Tryd.underlying25 rfl (by kernel_rfl) (by rw [List.drop_zero, take_all Lb.out]) (by rw [Lb.out]; omega) ?_
       simp only [Act.put, List.setIfInBounds_toArray, List.set_cons_zero, List.set_cons_succ]
       go_big_quiet_on)
    | (go_big_quiet_want
       refine quiet_load_seg 25 (.tmp 6) (by rfl) (w2.heap.size) 0 6 (by rfl) 25 .u64 x x _ (fun w' ⟨i, hi⟩ => by rw [hi]; exact qx10.keep (hf i)) Tryd.underlying25 rfl (by kernel_rfl) (by rw [List.drop_zero, take_all Lx.out]) (by rw [Lx.out]; omega) ?_
       simp only [Act.put, List.setIfInBounds_toArray, List.set_cons_zero, List.set_cons_succ]
       go_big_quiet_on)
    | (go_big_quiet_want
       refine quiet_load_seg 25 (.tmp 7) (by rfl) (w4.heap.size) 0 6 (by rfl) 25 .u64 y y _ (fun w' ⟨i, hi⟩ => by rw [hi]; exact qy10.keep (hf i)) Tryd.underlying25 rfl (by kernel_rfl) (by rw [List.drop_zero, take_all Ly.out]) (by rw [Ly.out]; omega) ?_
       simp only [Act.put, List.setIfInBounds_toArray, List.set_cons_zero, List.set_cons_succ]
       go_big_quiet_on)
    | (go_big_quiet_want
       refine quiet_load_seg 25 (.tmp 8) (by rfl) (w5.heap.size) 0 6 (by rfl) 25 .u64 Z6 Z6 _ (fun w' ⟨i, hi⟩ => by rw [hi]; exact qz10.keep (hf i)) Tryd.underlying25 rfl (by kernel_rfl) (by rw [List.drop_zero, take_all LZ.out]) (by rw [LZ.out]; omega) ?_
       simp only [Act.put, List.setIfInBounds_toArray, List.set_cons_zero, List.set_cons_succ]
       go_big_quiet_on)
    | go_big_quiet_step (first | fail | (go_at_call 29; with_reducible exact calls_fam hf hback (A11.out _ (HGf.out _)))))
  refine wpQuiet_nil ?_
  intro w11 hq
  have qa11 := qa10.keep hq
  have qb11 := qb10.keep hq
  have qx11 := qx10.keep hq
  have qy11 := qy10.keep hq
  have qz11 := qz10.keep hq
  have qi11 := qi10.keep hq
  have hb11 := hb10.trans (hq.mono hb10.size)
  clear HDf HGf hf hback hq qa10 qb10 qx10 qy10 qz10 qi10 hb10 
  go_wp2
  refine wp_fam_all (by kernel_rfl) (by kernel_rfl) (fun I hI' fw hf hback => ?_)
  have HGf : Keep (∀ j, Glob (fw j)) := ⟨fun j => HG.out _ (hb11.trans ((hf j).mono hb11.size))⟩
  have HDf : Keep (∀ j, GlobD (fw j)) := ⟨fun j => HD.out _ (hb11.trans ((hf j).mono hb11.size))⟩
  repeat (first
    | (go_big_quiet_want
       refine quiet_load_seg 25 (.tmp 2) (by rfl) (w.heap.size) 0 6 (by rfl) 25 .u64 a a _ (fun w' ⟨i, hi⟩ => by rw [hi]; exact qa11.keep (hf i)) Tryd.underlying25 rfl (by kernel_rfl) (by rw [List.drop_zero, take_all La.out]) (by rw [La.out]; omega) ?_
       simp only [Act.put, List.setIfInBounds_toArray, List.set_cons_zero, List.set_cons_succ]
       go_big_quiet_on)
    | (go_big_quiet_want
       refine quiet_load_seg 25 (.tmp 3) (by rfl) (w.heap.size + 1) 0 6 (by rfl) 25 .u64 b b _ (fun w' ⟨i, hi⟩ => by rw [hi]; exact qb11.keep (hf i)) Tryd.underlying25 rfl (by kernel_rfl) (by rw [List.drop_zero, take_all Lb.out]) (by rw [Lb.out]; omega) ?_
       simp only [Act.put, List.setIfInBounds_toArray, List.set_cons_zero, List.set_cons_succ]
       go_big_quiet_on)
    | (go_big_quiet_want
       refine quiet_load_seg 25 (.tmp 6) (by rfl) (w2.heap.size) 0 6 (by rfl) 25 .u64 x x _ (fun w' ⟨i, hi⟩ => by rw [hi]; exact qx11.keep (hf i)) Tryd.underlying25 rfl (by kernel_rfl) (by rw [List.drop_zero, take_all Lx.out]) (by rw [Lx.out]; omega) ?_
       simp only [Act.put, List.setIfInBounds_toArray, List.set_cons_zero, List.set_cons_succ]
       go_big_quiet_on)
    | (go_big_quiet_want
       refine quiet_load_seg 25 (.tmp 7) (by rfl) (w4.heap.size) 0 6 (by rfl) 25 .u64 y y _ (fun w' ⟨i, hi⟩ => by rw [hi]; exact qy11.keep (hf i)) Tryd.underlying25 rfl (by kernel_rfl) (by rw [List.drop_zero, take_all Ly.out]) (by rw [Ly.out]; omega) ?_
       simp only [Act.put, List.setIfInBounds_toArray, List.set_cons_zero, List.set_cons_succ]
       go_big_quiet_on)
    | (go_big_quiet_want
       refine quiet_load_seg 25 (.tmp 8) (by rfl) (w5.heap.size) 0 6 (by rfl) 25 .u64 Z6 Z6 _ (fun w' ⟨i, hi⟩ => by rw [hi]; exact qz11.keep (hf i)) Tryd.underlying25 rfl (by kernel_rfl) (by rw [List.drop_zero, take_all LZ.out]) (by rw [LZ.out]; omega) ?_
       simp only [Act.put, List.setIfInBounds_toArray, List.set_cons_zero, List.set_cons_succ]
       go_big_quiet_on)
    | (go_big_quiet_want
       refine quiet_load_seg 25 (.tmp 10) (by rfl) (w8.heap.size) 0 6 (by rfl) 25 .u64 i i _ (fun w' ⟨i, hi⟩ => by rw [hi]; exact qi11.keep (hf i)) Tryd.underlying25 rfl (by kernel_rfl) (by rw [List.drop_zero, take_all Li.out]) (by rw [Li.out]; omega) ?_
       simp only [Act.put, List.setIfInBounds_toArray, List.set_cons_zero, List.set_cons_succ]
       go_big_quiet_on)
    | go_big_quiet_step (first | fail | (go_at_call 31; with_reducible exact calls_fam hf hback (A14.out _ (HDf.out _)))))
  refine wpQuiet_nil ?_
  intro w12 hq
  have hb12 := hb11.trans (hq.mono hb11.size)
  clear HDf HGf hf hback hq  hb11 qa11 qb11 qx11 qy11 qz11 qi11
  go_wp2
  go_ret
  exact ⟨rfl, hb12⟩

set_option maxRecDepth 100000 in
set_option maxHeartbeats 4000000 in
theorem fpUndoes_yn (a : List Int) (hla : a.length = 6) (hwa : Words a) (b : List Int) (hlb : b.length = 6) (hwb : Words b) (hx : num a % PP = 0) (hy : num b % PP ≠ 0) (w : World) (hG : GlobD w) : Calls Tryd.prog 9 #[.agg (vals .u64 a), .agg (vals .u64 b)] w fun e w' => e = .returned (.bool true) ∧ Below w.heap.size w w' := by
  have h_la := hla
  have h_wa := hwa
  have h_lb := hlb
  have h_wb := hwb
  obtain ⟨x, hx_⟩ : ∃ o, fe (num a) = o := ⟨_, rfl⟩
  have h_lx : x.length = 6 := by rw [← hx_]; exact fe_len _
  have h_wx : Words x := by rw [← hx_]; exact fe_words _
  have Ex := eq6 x h_lx
  have Lx : Keep (x.length = 6) := ⟨h_lx⟩
  obtain ⟨y, hy_⟩ : ∃ o, fe (num b) = o := ⟨_, rfl⟩
  have h_ly : y.length = 6 := by rw [← hy_]; exact fe_len _
  have h_wy : Words y := by rw [← hy_]; exact fe_words _
  have Ey := eq6 y h_ly
  have Ly : Keep (y.length = 6) := ⟨h_ly⟩
  obtain ⟨s, hs⟩ : ∃ o, fe (num a + num b) = o := ⟨_, rfl⟩
  have h_ls : s.length = 6 := by rw [← hs]; exact fe_len _
  have h_ws : Words s := by rw [← hs]; exact fe_words _
  have Es := eq6 s h_ls
  have Ls : Keep (s.length = 6) := ⟨h_ls⟩
  obtain ⟨n, hn⟩ : ∃ o, fe (-num a) = o := ⟨_, rfl⟩
  have h_ln : n.length = 6 := by rw [← hn]; exact fe_len _
  have h_wn : Words n := by rw [← hn]; exact fe_words _
  have En := eq6 n h_ln
  have Ln : Keep (n.length = 6) := ⟨h_ln⟩
  obtain ⟨d, hd⟩ : ∃ o, fe (num a - num b) = o := ⟨_, rfl⟩
  have h_ld : d.length = 6 := by rw [← hd]; exact fe_len _
  have h_wd : Words d := by rw [← hd]; exact fe_words _
  have Ed := eq6 d h_ld
  have Ld : Keep (d.length = 6) := ⟨h_ld⟩
  obtain ⟨e1, he1⟩ : ∃ o, fe (num b - num a) = o := ⟨_, rfl⟩
  have h_le1 : e1.length = 6 := by rw [← he1]; exact fe_len _
  have h_we1 : Words e1 := by rw [← he1]; exact fe_words _
  have Ee1 := eq6 e1 h_le1
  have Le1 : Keep (e1.length = 6) := ⟨h_le1⟩
  obtain ⟨i, hi⟩ : ∃ o, fe (pw (num b) (PP - 2)) = o := ⟨_, rfl⟩
  have h_li : i.length = 6 := by rw [← hi]; exact fe_len _
  have h_wi : Words i := by rw [← hi]; exact fe_words _
  have Ei := eq6 i h_li
  have Li : Keep (i.length = 6) := ⟨h_li⟩
  obtain ⟨m, hm⟩ : ∃ o, fe (num a * num b) = o := ⟨_, rfl⟩
  have h_lm : m.length = 6 := by rw [← hm]; exact fe_len _
  have h_wm : Words m := by rw [← hm]; exact fe_words _
  have Em := eq6 m h_lm
  have Lm : Keep (m.length = 6) := ⟨h_lm⟩
  have eA1 : fe (num a) = x := by exact hx_
  have A1 : Keep _ := ⟨fun w (hG : Glob w) => fpReduce_c a h_la h_wa w hG⟩
  rw [eA1] at A1
  have eA2 : fe (num b) = y := by exact hy_
  have A2 : Keep _ := ⟨fun w (hG : Glob w) => fpReduce_c b h_lb h_wb w hG⟩
  rw [eA2] at A2
  have eA3 : fe (num a + num b) = s := by exact hs
  have A3 : Keep _ := ⟨fun w (hG : Glob w) => fpAdd_c a h_la h_wa b h_lb h_wb w hG⟩
  rw [eA3] at A3
  have eA4 : fe (num s - num b) = x := by rw [← hs, fe_subl, ← hx_]; congr 1; omega
  have A4 : Keep _ := ⟨fun w (hG : Glob w) => fpSub_c s h_ls h_ws b h_lb h_wb w hG⟩
  rw [eA4] at A4
  have eA5 : fe (-num a) = n := by exact hn
  have A5 : Keep _ := ⟨fun w (hG : Glob w) => fpNeg_c a h_la h_wa w hG⟩
  rw [eA5] at A5
  have eA6 : fe (num a + num n) = Z6 := by rw [← hn, fe_addr, ← fe_zero]; congr 1; omega
  have A6 : Keep _ := ⟨fun w (hG : Glob w) => fpAdd_c a h_la h_wa n h_ln h_wn w hG⟩
  rw [eA6] at A6
  have eA7 : fe (num a - num b) = d := by exact hd
  have A7 : Keep _ := ⟨fun w (hG : Glob w) => fpSub_c a h_la h_wa b h_lb h_wb w hG⟩
  rw [eA7] at A7
  have eA8 : fe (num b - num a) = e1 := by exact he1
  have A8 : Keep _ := ⟨fun w (hG : Glob w) => fpSub_c b h_lb h_wb a h_la h_wa w hG⟩
  rw [eA8] at A8
  have eA9 : fe (-num e1) = d := by rw [← he1, fe_neg, ← hd]; congr 1; omega
  have A9 : Keep _ := ⟨fun w (hG : Glob w) => fpNeg_c e1 h_le1 h_we1 w hG⟩
  rw [eA9] at A9
  have eA10 : fe (pw (num b) (PP - 2)) = i := by exact hi
  have A10 : Keep _ := ⟨fun w (hG : GlobD w) => fpInv_c b h_lb h_wb w hG⟩
  rw [eA10] at A10
  have eA11 : fe (num a * num b) = m := by exact hm
  have A11 : Keep _ := ⟨fun w (hG : Glob w) => fpMul_c a h_la h_wa b h_lb h_wb w hG⟩
  rw [eA11] at A11
  have eA12 : fe (num b * num i) = [1, 0, 0, 0, 0, 0] := by rw [← hi, fe_inv hy, fe_one]
  have A12 : Keep _ := ⟨fun w (hG : Glob w) => fpMul_c b h_lb h_wb i h_li h_wi w hG⟩
  rw [eA12] at A12
  have eA13 : fe (num m * num i) = x := by rw [← hm, ← hi, fe_mull, fe_mulr, Int.mul_assoc, ← fe_mulr, fe_inverse hy, fe_mulr, Int.mul_one]; exact hx_
  have A13 : Keep _ := ⟨fun w (hG : Glob w) => fpMul_c m h_lm h_wm i h_li h_wi w hG⟩
  rw [eA13] at A13
  have eA14 : fe (pw (num i) (PP - 2)) = y := by rw [← hi, fe_inv_inv]; exact hy_
  have A14 : Keep _ := ⟨fun w (hG : GlobD w) => fpInv_c i h_li h_wi w hG⟩
  rw [eA14] at A14
  have hlZ : Z6.length = 6 := rfl
  have LZ : Keep (Z6.length = 6) := ⟨rfl⟩
  have Lone : Keep (([1, 0, 0, 0, 0, 0] : List Int).length = 6) := ⟨rfl⟩
  have EZ := eq6 Z6 rfl
  have E1 := eq6 [1, 0, 0, 0, 0, 0] rfl
  have EX := eqt6 h_lx hlZ (by rw [← hx_, ← fe_zero]; exact (fe_zero_iff _).2 hx)
  have EY := eqf6 h_ly hlZ (by rw [← hy_, ← fe_zero]; exact fun h => hy ((fe_zero_iff _).1 h))
  have EM := eqt6 h_lm hlZ (by rw [← hm, ← fe_zero]; exact (fe_prod_zero _ _).2 (.inl ((fe_zero_iff _).2 hx)))
  have hgd := gd6
  have HG : Keep (∀ x : World, Below w.heap.size w x → Glob x) := ⟨fun x h => hG.toGlob.keep h⟩
  have HD : Keep (∀ x : World, Below w.heap.size w x → GlobD x) := ⟨fun x h => hG.keep h⟩
  clear hG
  have qa0 : Has ((w.alloc (.cells (vals .u64 a) 25)).alloc (.cells (vals .u64 b) 25)) (w.heap.size) 25 (vals .u64 a) := ((Has.new _ _ _).alloc _)
  have qb0 : Has ((w.alloc (.cells (vals .u64 a) 25)).alloc (.cells (vals .u64 b) 25)) (w.heap.size + 1) 25 (vals .u64 b) := (Has.new' _ (by simp) _ _)
  have hb0 : Below w.heap.size w ((w.alloc (.cells (vals .u64 a) 25)).alloc (.cells (vals .u64 b) 25)) := (((Below.refl _ _).alloc (by simp <;> omega) _).alloc (by simp <;> omega) _)
  have La : Keep _ := ⟨hla⟩
  have Wa : Keep _ := ⟨hwa⟩
  have Lb : Keep _ := ⟨hlb⟩
  have Wb : Keep _ := ⟨hwb⟩
  clear hx_ hy_ hx hy hs hn hd he1 hi hm h_ls h_ws h_ln h_wn h_ld h_wd h_le1 h_we1 h_li h_wi h_lm h_wm h_lx h_wx h_ly h_wy h_la h_wa h_lb h_wb eA1 eA2 eA3 eA4 eA5 eA6 eA7 eA8 eA9 eA10 eA11 eA12 eA13 eA14 hla hwa hlb hwb hlZ
  go_enter Tryd.func9, Tryd.ntmps9
  go_wp2_with (first
    | (refine wpList_buildTo (by rfl) 25 #[] (by rfl) (some 18) (by rfl) (vals .u64 Z6) (by kernel_rfl) ?_)
    | (refine store_abs2 (by rfl) 25 (.tmp 8) (.tmp 18) (by rfl) (by rfl) w5.heap.size (vals .u64 Z6) (by rfl) (by rfl) 25 (vals .u64 Z6) (Has.new' _ rfl _ _) (by rw [vals_size, LZ.out]; kernel_rfl) (by first | rfl | (rw [vals_size, vals_size, LZ.out]; rfl)) vals_one ?_
       intro w6 qz6 hkeep hbg
       have hbe := ((Below.refl w5.heap.size w5).alloc (Nat.le_refl _) (.cells (vals .u64 Z6) 25)).trans hbg
       have qa6 := qa5.keep hbe
       have qb6 := qb5.keep hbe
       have qx6 := qx5.keep hbe
       have qy6 := qy5.keep hbe
       have hb6 := hb5.trans (hbe.mono hb5.size)
       clear hkeep hbg hbe hb5 qa5 qb5 qx5 qy5)
    | (refine store_abs2 (by rfl) 25 (.tmp 7) (.tmp 17) (by rfl) (by rfl) w4.heap.size (vals .u64 y) (by rfl) (by rfl) 25 (vals .u64 Z6) (Has.new' _ rfl _ _) (by rw [vals_size, Ly.out]; kernel_rfl) (by first | rfl | (rw [vals_size, vals_size, Ly.out]; rfl)) vals_one ?_
       intro w5 qy5 hkeep hbg
       have hbe := ((Below.refl w4.heap.size w4).alloc (Nat.le_refl _) (.cells (vals .u64 Z6) 25)).trans hbg
       have qa5 := qa4.keep hbe
       have qb5 := qb4.keep hbe
       have qx5 := qx4.keep hbe
       have hb5 := hb4.trans (hbe.mono hb4.size)
       clear hkeep hbg hbe hb4 qa4 qb4 qx4)
    | (have q1 := f1
       go_at_call 21
       refine (A2.out _ (HG.out _ hb3)).mono ?_
       rintro e w4 ⟨rfl, hq⟩
       have qa4 := qa3.keep hq
       have qb4 := qb3.keep hq
       have qx4 := qx3.keep hq
       have hb4 := hb3.trans (hq.mono hb3.size)
       clear hq hb3 qa3 qb3 qx3)
    | (refine wpList_load_row rfl 25 (.tmp 3) rfl (w.heap.size + 1) rfl _ _ _ _ qb3.eq Tryd.underlying25 rfl (by rw [vals_size, Lb.out]; kernel_rfl) ?_)
    | (refine store_abs2 (by rfl) 25 (.tmp 6) (.tmp 15) (by rfl) (by rfl) w2.heap.size (vals .u64 x) (by rfl) (by rfl) 25 (vals .u64 Z6) (Has.new' _ rfl _ _) (by rw [vals_size, Lx.out]; kernel_rfl) (by first | rfl | (rw [vals_size, vals_size, Lx.out]; rfl)) vals_one ?_
       intro w3 qx3 hkeep hbg
       have hbe := ((Below.refl w2.heap.size w2).alloc (Nat.le_refl _) (.cells (vals .u64 Z6) 25)).trans hbg
       have qa3 := qa2.keep hbe
       have qb3 := qb2.keep hbe
       have hb3 := hb2.trans (hbe.mono hb2.size)
       clear hkeep hbg hbe hb2 qa2 qb2
       have f1 := True.intro)
    | (go_at_call 21
       refine (A1.out _ (HG.out _ hb1)).mono ?_
       rintro e w2 ⟨rfl, hq⟩
       have qa2 := qa1.keep hq
       have qb2 := qb1.keep hq
       have hb2 := hb1.trans (hq.mono hb1.size)
       clear hq hb1 qa1 qb1)
    | (refine wpList_load_row rfl 25 (.tmp 2) rfl (w.heap.size) rfl _ _ _ _ qa1.eq Tryd.underlying25 rfl (by rw [vals_size, La.out]; kernel_rfl) ?_)
    | (go_at_call 18
       refine (awake_c _ (HD.out _ hb0)).mono ?_
       rintro e w1 ⟨rfl, hq⟩
       have qa1 := qa0.keep hq
       have qb1 := qb0.keep hq
       have hb1 := hb0.trans (hq.mono hb0.size)
       clear hq hb0 qa0 qb0))
  refine wp_fam_all (by kernel_rfl) (by kernel_rfl) (fun I hI' fw hf hback => ?_)
  have HGf : Keep (∀ j, Glob (fw j)) := ⟨fun j => HG.out _ (hb6.trans ((hf j).mono hb6.size))⟩
  have HDf : Keep (∀ j, GlobD (fw j)) := ⟨fun j => HD.out _ (hb6.trans ((hf j).mono hb6.size))⟩
  repeat (first
    | (go_big_quiet_want
       refine quiet_load_seg 25 (.tmp 2) (by rfl) (w.heap.size) 0 6 (by rfl) 25 .u64 a a _ (fun w' ⟨i, hi⟩ => by rw [hi]; exact qa6.keep (hf i)) Tryd.underlying25 rfl (by kernel_rfl) (by rw [List.drop_zero, take_all La.out]) (by rw [La.out]; omega) ?_
       simp only [Act.put, List.setIfInBounds_toArray, List.set_cons_zero, List.set_cons_succ]
       go_big_quiet_on)
    | (go_big_quiet_want
       refine quiet_load_seg 25 (.tmp 3) (by rfl) (w.heap.size + 1) 0 6 (by rfl) 25 .u64 b b _ (fun w' ⟨i, hi⟩ => by rw [hi]; exact qb6.keep (hf i)) Tryd.underlying25 rfl (by kernel_rfl) (by rw [List.drop_zero, take_all Lb.out]) (by rw [Lb.out]; omega) ?_
       simp only [Act.put, List.setIfInBounds_toArray, List.set_cons_zero, List.set_cons_succ]
       go_big_quiet_on)
    | (go_big_quiet_want
       refine quiet_load_seg 25 (.tmp 6) (by rfl) (w2.heap.size) 0 6 (by rfl) 25 .u64 x x _ (fun w' ⟨i, hi⟩ => by rw [hi]; exact qx6.keep (hf i)) Tryd.underlying25 rfl (by kernel_rfl) (by rw [List.drop_zero, take_all Lx.out]) (by rw [Lx.out]; omega) ?_
       simp only [Act.put, List.setIfInBounds_toArray, List.set_cons_zero, List.set_cons_succ]
       go_big_quiet_on)
    | (go_big_quiet_want
       refine quiet_load_seg 25 (.tmp 7) (by rfl) (w4.heap.size) 0 6 (by rfl) 25 .u64 y y _ (fun w' ⟨i, hi⟩ => by rw [hi]; exact qy6.keep (hf i)) Tryd.underlying25 rfl (by kernel_rfl) (by rw [List.drop_zero, take_all Ly.out]) (by rw [Ly.out]; omega) ?_
       simp only [Act.put, List.setIfInBounds_toArray, List.set_cons_zero, List.set_cons_succ]
       go_big_quiet_on)
    | (go_big_quiet_want
       refine quiet_load_seg 25 (.tmp 8) (by rfl) (w5.heap.size) 0 6 (by rfl) 25 .u64 Z6 Z6 _ (fun w' ⟨i, hi⟩ => by rw [hi]; exact qz6.keep (hf i)) Tryd.underlying25 rfl (by kernel_rfl) (by rw [List.drop_zero, take_all LZ.out]) (by rw [LZ.out]; omega) ?_
       simp only [Act.put, List.setIfInBounds_toArray, List.set_cons_zero, List.set_cons_succ]
       go_big_quiet_on)
    | go_big_quiet_step (first | fail | (go_at_call 23; with_reducible exact calls_fam hf hback (A3.out _ (HGf.out _))) | (go_at_call 25; with_reducible exact calls_fam hf hback (A4.out _ (HGf.out _))) | (go_at_call 27; with_reducible exact calls_fam hf hback (A5.out _ (HGf.out _))) | (go_at_call 23; with_reducible exact calls_fam hf hback (A6.out _ (HGf.out _))) | (go_at_call 25; with_reducible exact calls_fam hf hback (A7.out _ (HGf.out _))) | (go_at_call 25; with_reducible exact calls_fam hf hback (A8.out _ (HGf.out _))) | (go_at_call 27; with_reducible exact calls_fam hf hback (A9.out _ (HGf.out _)))))
  refine wpQuiet_nil ?_
  intro w7 hq
  have qa7 := qa6.keep hq
  have qb7 := qb6.keep hq
  have qx7 := qx6.keep hq
  have qy7 := qy6.keep hq
  have qz7 := qz6.keep hq
  have hb7 := hb6.trans (hq.mono hb6.size)
  clear HDf HGf hf hback hq qa6 qb6 qx6 qy6 qz6 hb6 
  go_wp2_with (first
    | (refine store_abs2 (by rfl) 25 (.tmp 10) (.tmp 45) (by rfl) (by rfl) w8.heap.size (vals .u64 i) (by rfl) (by rfl) 25 (vals .u64 Z6) (Has.new' _ rfl _ _) (by rw [vals_size, Li.out]; kernel_rfl) (by first | rfl | (rw [vals_size, vals_size, Li.out]; rfl)) vals_one ?_
       intro w9 qi9 hkeep hbg
       have hbe := ((Below.refl w8.heap.size w8).alloc (Nat.le_refl _) (.cells (vals .u64 Z6) 25)).trans hbg
       have qa9 := qa8.keep hbe
       have qb9 := qb8.keep hbe
       have qx9 := qx8.keep hbe
       have qy9 := qy8.keep hbe
       have qz9 := qz8.keep hbe
       have hb9 := hb8.trans (hbe.mono hb8.size)
       clear hkeep hbg hbe hb8 qa8 qb8 qx8 qy8 qz8)
    | (go_at_call 31
       refine (A10.out _ (HD.out _ hb7)).mono ?_
       rintro e w8 ⟨rfl, hq⟩
       have qa8 := qa7.keep hq
       have qb8 := qb7.keep hq
       have qx8 := qx7.keep hq
       have qy8 := qy7.keep hq
       have qz8 := qz7.keep hq
       have hb8 := hb7.trans (hq.mono hb7.size)
       clear hq hb7 qa7 qb7 qx7 qy7 qz7)
    | (refine wpList_load_row rfl 25 (.tmp 3) rfl (w.heap.size + 1) rfl _ _ _ _ qb7.eq Tryd.underlying25 rfl (by rw [vals_size, Lb.out]; kernel_rfl) ?_))
  refine wp_fam_all (by kernel_rfl) (by kernel_rfl) (fun I hI' fw hf hback => ?_)
  have HGf : Keep (∀ j, Glob (fw j)) := ⟨fun j => HG.out _ (hb9.trans ((hf j).mono hb9.size))⟩
  have HDf : Keep (∀ j, GlobD (fw j)) := ⟨fun j => HD.out _ (hb9.trans ((hf j).mono hb9.size))⟩
  repeat (first
    | (go_big_quiet_want
       refine quiet_load_seg 25 (.tmp 2) (by rfl) (w.heap.size) 0 6 (by rfl) 25 .u64 a a _ (fun w' ⟨i, hi⟩ => by rw [hi]; exact qa9.keep (hf i)) Tryd.underlying25 rfl (by kernel_rfl) (by rw [List.drop_zero, take_all La.out]) (by rw [La.out]; omega) ?_
       simp only [Act.put, List.setIfInBounds_toArray, List.set_cons_zero, List.set_cons_succ]
       go_big_quiet_on)
    | (go_big_quiet_want
       refine quiet_load_seg 25 (.tmp 3) (by rfl) (w.heap.size + 1) 0 6 (by rfl) 25 .u64 b b _ (fun w' ⟨i, hi⟩ => by rw [hi]; exact qb9.keep (hf i)) Tryd.underlying25 rfl (by kernel_rfl) (by rw [List.drop_zero, take_all Lb.out]) (by rw [Lb.out]; omega) ?_
       simp only [Act.put, List.setIfInBounds_toArray, List.set_cons_zero, List.set_cons_succ]
       go_big_quiet_on)
    | (go_big_quiet_want
       refine quiet_load_seg 25 (.tmp 6) (by rfl) (w2.heap.size) 0 6 (by rfl) 25 .u64 x x _ (fun w' ⟨i, hi⟩ => by rw [hi]; exact qx9.keep (hf i)) Tryd.underlying25 rfl (by kernel_rfl) (by rw [List.drop_zero, take_all Lx.out]) (by rw [Lx.out]; omega) ?_
       simp only [Act.put, List.setIfInBounds_toArray, List.set_cons_zero, List.set_cons_succ]
       go_big_quiet_on)
    | (go_big_quiet_want
       refine quiet_load_seg 25 (.tmp 7) (by rfl) (w4.heap.size) 0 6 (by rfl) 25 .u64 y y _ (fun w' ⟨i, hi⟩ => by rw [hi]; exact qy9.keep (hf i)) Tryd.underlying25 rfl (by kernel_rfl) (by rw [List.drop_zero, take_all Ly.out]) (by rw [Ly.out]; omega) ?_
       simp only [Act.put, List.setIfInBounds_toArray, List.set_cons_zero, List.set_cons_succ]
       go_big_quiet_on)
    | (go_big_quiet_want
       refine quiet_load_seg 25 (.tmp 8) (by rfl) (w5.heap.size) 0 6 (by rfl) 25 .u64 Z6 Z6 _ (fun w' ⟨i, hi⟩ => by rw [hi]; exact qz9.keep (hf i)) Tryd.underlying25 rfl (by kernel_rfl) (by rw [List.drop_zero, take_all LZ.out]) (by rw [LZ.out]; omega) ?_
       simp only [Act.put, List.setIfInBounds_toArray, List.set_cons_zero, List.set_cons_succ]
       go_big_quiet_on)
    | (go_big_quiet_want
       refine quiet_load_seg 25 (.tmp 10) (by rfl) (w8.heap.size) 0 6 (by rfl) 25 .u64 i i _ (fun w' ⟨i, hi⟩ => by rw [hi]; exact qi9.keep (hf i)) Tryd.underlying25 rfl (by kernel_rfl) (by rw [List.drop_zero, take_all Li.out]) (by rw [Li.out]; omega) ?_
       simp only [Act.put, List.setIfInBounds_toArray, List.set_cons_zero, List.set_cons_succ]
       go_big_quiet_on)
    | (go_big_quiet_want
       refine quiet_build 25 #[(0, .const (.int .u64 1))] (by rfl) (vals .u64 [1, 0, 0, 0, 0, 0]) (by kernel_rfl) ?_
       simp only [Act.put, List.setIfInBounds_toArray, List.set_cons_zero, List.set_cons_succ]
       go_big_quiet_on)
    | go_big_quiet_step (first | fail | (go_at_call 29; with_reducible exact calls_fam hf hback (A12.out _ (HGf.out _))) | (go_at_call 29; with_reducible exact calls_fam hf hback (A11.out _ (HGf.out _))) | (go_at_call 29; with_reducible exact calls_fam hf hback (A13.out _ (HGf.out _)))))
  refine wpQuiet_nil ?_
  intro w10 hq
  have qa10 := qa9.keep hq
  have qb10 := qb9.keep hq
  have qx10 := qx9.keep hq
  have qy10 := qy9.keep hq
  have qz10 := qz9.keep hq
  have qi10 := qi9.keep hq
  have hb10 := hb9.trans (hq.mono hb9.size)
  clear HDf HGf hf hback hq qa9 qb9 qx9 qy9 qz9 qi9 hb9 
  go_wp2
  refine wp_fam_all (by kernel_rfl) (by kernel_rfl) (fun I hI' fw hf hback => ?_)
  have HGf : Keep (∀ j, Glob (fw j)) := ⟨fun j => HG.out _ (hb10.trans ((hf j).mono hb10.size))⟩
  have HDf : Keep (∀ j, GlobD (fw j)) := ⟨fun j => HD.out _ (hb10.trans ((hf j).mono hb10.size))⟩
  repeat (first
    | (go_big_quiet_want
       refine quiet_load_seg 25 (.tmp 2) (by rfl) (w.heap.size) 0 6 (by rfl) 25 .u64 a a _ (fun w' ⟨i, hi⟩ => by rw [hi]; exact qa10.keep (hf i)) Tryd.underlying25 rfl (by kernel_rfl) (by rw [List.drop_zero, take_all La.out]) (by rw [La.out]; omega) ?_
       simp only [Act.put, List.setIfInBounds_toArray, List.set_cons_zero, List.set_cons_succ]
       go_big_quiet_on)
    | (go_big_quiet_want
       refine quiet_load_seg 25 (.tmp 3) (by rfl) (w.heap.size + 1) 0 6 (by rfl) 25 .u64 b b _ (fun w' ⟨i, hi⟩ => by rw [hi]; exact qb10.keep (hf i)) Tryd.underlying25 rfl (by kernel_rfl) (by rw [List.drop_zero, take_all Lb.out]) (by rw [Lb.out]; omega) ?_
       simp only [Act.put, List.setIfInBounds_toArray, List.set_cons_zero, List.set_cons_succ]
       go_big_quiet_on)
    | (go_big_quiet_want
       refine quiet_load_seg 25 (.tmp 6) (by rfl) (w2.heap.size) 0 6 (by rfl) 25 .u64 x x _ (fun w' ⟨i, hi⟩ => by rw [hi]; exact qx10.keep (hf i)) Tryd.underlying25 rfl (by kernel_rfl) (by rw [List.drop_zero, take_all Lx.out]) (by rw [Lx.out]; omega) ?_
       simp only [Act.put, List.setIfInBounds_toArray, List.set_cons_zero, List.set_cons_succ]
       go_big_quiet_on)
    | (go_big_quiet_want
       refine quiet_load_seg 25 (.tmp 7) (by rfl) (w4.heap.size) 0 6 (by rfl) 25 .u64 y y _ (fun w' ⟨i, hi⟩ => by rw [hi]; exact qy10.keep (hf i)) Tryd.underlying25 rfl (by kernel_rfl) (by rw [List.drop_zero, take_all Ly.out]) (by rw [Ly.out]; omega) ?_
       simp only [Act.put, List.setIfInBounds_toArray, List.set_cons_zero, List.set_cons_succ]
       go_big_quiet_on)
    | (go_big_quiet_want
       refine quiet_load_seg 25 (.tmp 8) (by rfl) (w5.heap.size) 0 6 (by rfl) 25 .u64 Z6 Z6 _ (fun w' ⟨i, hi⟩ => by rw [hi]; exact qz10.keep (hf i)) Tryd.underlying25 rfl (by kernel_rfl) (by rw [List.drop_zero, take_all LZ.out]) (by rw [LZ.out]; omega) ?_
       simp only [Act.put, List.setIfInBounds_toArray, List.set_cons_zero, List.set_cons_succ]
       go_big_quiet_on)
    | go_big_quiet_step (first | fail | (go_at_call 29; with_reducible exact calls_fam hf hback (A11.out _ (HGf.out _)))))
  refine wpQuiet_nil ?_
  intro w11 hq
  have qa11 := qa10.keep hq
  have qb11 := qb10.keep hq
  have qx11 := qx10.keep hq
  have qy11 := qy10.keep hq
  have qz11 := qz10.keep hq
  have qi11 := qi10.keep hq
  have hb11 := hb10.trans (hq.mono hb10.size)
  clear HDf HGf hf hback hq qa10 qb10 qx10 qy10 qz10 qi10 hb10 
  go_wp2
  refine wp_fam_all (by kernel_rfl) (by kernel_rfl) (fun I hI' fw hf hback => ?_)
  have HGf : Keep (∀ j, Glob (fw j)) := ⟨fun j => HG.out _ (hb11.trans ((hf j).mono hb11.size))⟩
  have HDf : Keep (∀ j, GlobD (fw j)) := ⟨fun j => HD.out _ (hb11.trans ((hf j).mono hb11.size))⟩
  repeat (first
    | (go_big_quiet_want
       refine quiet_load_seg 25 (.tmp 2) (by rfl) (w.heap.size) 0 6 (by rfl) 25 .u64 a a _ (fun w' ⟨i, hi⟩ => by rw [hi]; exact qa11.keep (hf i)) Tryd.underlying25 rfl (by kernel_rfl) (by rw [List.drop_zero, take_all La.out]) (by rw [La.out]; omega) ?_
       simp only [Act.put, List.setIfInBounds_toArray, List.set_cons_zero, List.set_cons_succ]
       go_big_quiet_on)
    | (go_big_quiet_want
       refine quiet_load_seg 25 (.tmp 3) (by rfl) (w.heap.size + 1) 0 6 (by rfl) 25 .u64 b b _ (fun w' ⟨i, hi⟩ => by rw [hi]; exact qb11.keep (hf i)) Tryd.underlying25 rfl (by kernel_rfl) (by rw [List.drop_zero, take_all Lb.out]) (by rw [Lb.out]; omega) ?_
       simp only [Act.put, List.setIfInBounds_toArray, List.set_cons_zero, List.set_cons_succ]
       go_big_quiet_on)
    | (go_big_quiet_want
       refine quiet_load_seg 25 (.tmp 6) (by rfl) (w2.heap.size) 0 6 (by rfl) 25 .u64 x x _ (fun w' ⟨i, hi⟩ => by rw [hi]; exact qx11.keep (hf i)) Tryd.underlying25 rfl (by kernel_rfl) (by rw [List.drop_zero, take_all Lx.out]) (by rw [Lx.out]; omega) ?_
       simp only [Act.put, List.setIfInBounds_toArray, List.set_cons_zero, List.set_cons_succ]
       go_big_quiet_on)
    | (go_big_quiet_want
       refine quiet_load_seg 25 (.tmp 7) (by rfl) (w4.heap.size) 0 6 (by rfl) 25 .u64 y y _ (fun w' ⟨i, hi⟩ => by rw [hi]; exact qy11.keep (hf i)) Tryd.underlying25 rfl (by kernel_rfl) (by rw [List.drop_zero, take_all Ly.out]) (by rw [Ly.out]; omega) ?_
       simp only [Act.put, List.setIfInBounds_toArray, List.set_cons_zero, List.set_cons_succ]
       go_big_quiet_on)
    | (go_big_quiet_want
       refine quiet_load_seg 25 (.tmp 8) (by rfl) (w5.heap.size) 0 6 (by rfl) 25 .u64 Z6 Z6 _ (fun w' ⟨i, hi⟩ => by rw [hi]; exact qz11.keep (hf i)) Tryd.underlying25 rfl (by kernel_rfl) (by rw [List.drop_zero, take_all LZ.out]) (by rw [LZ.out]; omega) ?_
       simp only [Act.put, List.setIfInBounds_toArray, List.set_cons_zero, List.set_cons_succ]
       go_big_quiet_on)
    | (go_big_quiet_want
       refine quiet_load_seg 25 (.tmp 10) (by rfl) (w8.heap.size) 0 6 (by rfl) 25 .u64 i i _ (fun w' ⟨i, hi⟩ => by rw [hi]; exact qi11.keep (hf i)) Tryd.underlying25 rfl (by kernel_rfl) (by rw [List.drop_zero, take_all Li.out]) (by rw [Li.out]; omega) ?_
       simp only [Act.put, List.setIfInBounds_toArray, List.set_cons_zero, List.set_cons_succ]
       go_big_quiet_on)
    | go_big_quiet_step (first | fail | (go_at_call 31; with_reducible exact calls_fam hf hback (A14.out _ (HDf.out _)))))
  refine wpQuiet_nil ?_
  intro w12 hq
  have hb12 := hb11.trans (hq.mono hb11.size)
  clear HDf HGf hf hback hq  hb11 qa11 qb11 qx11 qy11 qz11 qi11
  go_wp2
  go_ret
  exact ⟨rfl, hb12⟩

set_option maxRecDepth 100000 in
set_option maxHeartbeats 4000000 in
theorem fpUndoes_y (a : List Int) (hla : a.length = 6) (hwa : Words a) (b : List Int) (hlb : b.length = 6) (hwb : Words b) (hx : num a % PP ≠ 0) (hy : num b % PP = 0) (w : World) (hG : GlobD w) : Calls Tryd.prog 9 #[.agg (vals .u64 a), .agg (vals .u64 b)] w fun e w' => e = .returned (.bool true) ∧ Below w.heap.size w w' := by
  have h_la := hla
  have h_wa := hwa
  have h_lb := hlb
  have h_wb := hwb
  obtain ⟨x, hx_⟩ : ∃ o, fe (num a) = o := ⟨_, rfl⟩
  have h_lx : x.length = 6 := by rw [← hx_]; exact fe_len _
  have h_wx : Words x := by rw [← hx_]; exact fe_words _
  have Ex := eq6 x h_lx
  have Lx : Keep (x.length = 6) := ⟨h_lx⟩
  obtain ⟨y, hy_⟩ : ∃ o, fe (num b) = o := ⟨_, rfl⟩
  have h_ly : y.length = 6 := by rw [← hy_]; exact fe_len _
  have h_wy : Words y := by rw [← hy_]; exact fe_words _
  have Ey := eq6 y h_ly
  have Ly : Keep (y.length = 6) := ⟨h_ly⟩
  obtain ⟨s, hs⟩ : ∃ o, fe (num a + num b) = o := ⟨_, rfl⟩
  have h_ls : s.length = 6 := by rw [← hs]; exact fe_len _
  have h_ws : Words s := by rw [← hs]; exact fe_words _
  have Es := eq6 s h_ls
  have Ls : Keep (s.length = 6) := ⟨h_ls⟩
  obtain ⟨n, hn⟩ : ∃ o, fe (-num a) = o := ⟨_, rfl⟩
  have h_ln : n.length = 6 := by rw [← hn]; exact fe_len _
  have h_wn : Words n := by rw [← hn]; exact fe_words _
  have En := eq6 n h_ln
  have Ln : Keep (n.length = 6) := ⟨h_ln⟩
  obtain ⟨d, hd⟩ : ∃ o, fe (num a - num b) = o := ⟨_, rfl⟩
  have h_ld : d.length = 6 := by rw [← hd]; exact fe_len _
  have h_wd : Words d := by rw [← hd]; exact fe_words _
  have Ed := eq6 d h_ld
  have Ld : Keep (d.length = 6) := ⟨h_ld⟩
  obtain ⟨e1, he1⟩ : ∃ o, fe (num b - num a) = o := ⟨_, rfl⟩
  have h_le1 : e1.length = 6 := by rw [← he1]; exact fe_len _
  have h_we1 : Words e1 := by rw [← he1]; exact fe_words _
  have Ee1 := eq6 e1 h_le1
  have Le1 : Keep (e1.length = 6) := ⟨h_le1⟩
  obtain ⟨i, hi⟩ : ∃ o, fe (pw (num b) (PP - 2)) = o := ⟨_, rfl⟩
  have h_li : i.length = 6 := by rw [← hi]; exact fe_len _
  have h_wi : Words i := by rw [← hi]; exact fe_words _
  have Ei := eq6 i h_li
  have Li : Keep (i.length = 6) := ⟨h_li⟩
  obtain ⟨m, hm⟩ : ∃ o, fe (num a * num b) = o := ⟨_, rfl⟩
  have h_lm : m.length = 6 := by rw [← hm]; exact fe_len _
  have h_wm : Words m := by rw [← hm]; exact fe_words _
  have Em := eq6 m h_lm
  have Lm : Keep (m.length = 6) := ⟨h_lm⟩
  have eA1 : fe (num a) = x := by exact hx_
  have A1 : Keep _ := ⟨fun w (hG : Glob w) => fpReduce_c a h_la h_wa w hG⟩
  rw [eA1] at A1
  have eA2 : fe (num b) = y := by exact hy_
  have A2 : Keep _ := ⟨fun w (hG : Glob w) => fpReduce_c b h_lb h_wb w hG⟩
  rw [eA2] at A2
  have eA3 : fe (num a + num b) = s := by exact hs
  have A3 : Keep _ := ⟨fun w (hG : Glob w) => fpAdd_c a h_la h_wa b h_lb h_wb w hG⟩
  rw [eA3] at A3
  have eA4 : fe (num s - num b) = x := by rw [← hs, fe_subl, ← hx_]; congr 1; omega
  have A4 : Keep _ := ⟨fun w (hG : Glob w) => fpSub_c s h_ls h_ws b h_lb h_wb w hG⟩
  rw [eA4] at A4
  have eA5 : fe (-num a) = n := by exact hn
  have A5 : Keep _ := ⟨fun w (hG : Glob w) => fpNeg_c a h_la h_wa w hG⟩
  rw [eA5] at A5
  have eA6 : fe (num a + num n) = Z6 := by rw [← hn, fe_addr, ← fe_zero]; congr 1; omega
  have A6 : Keep _ := ⟨fun w (hG : Glob w) => fpAdd_c a h_la h_wa n h_ln h_wn w hG⟩
  rw [eA6] at A6
  have eA7 : fe (num a - num b) = d := by exact hd
  have A7 : Keep _ := ⟨fun w (hG : Glob w) => fpSub_c a h_la h_wa b h_lb h_wb w hG⟩
  rw [eA7] at A7
  have eA8 : fe (num b - num a) = e1 := by exact he1
  have A8 : Keep _ := ⟨fun w (hG : Glob w) => fpSub_c b h_lb h_wb a h_la h_wa w hG⟩
  rw [eA8] at A8
  have eA9 : fe (-num e1) = d := by rw [← he1, fe_neg, ← hd]; congr 1; omega
  have A9 : Keep _ := ⟨fun w (hG : Glob w) => fpNeg_c e1 h_le1 h_we1 w hG⟩
  rw [eA9] at A9
  have eA10 : fe (pw (num b) (PP - 2)) = i := by exact hi
  have A10 : Keep _ := ⟨fun w (hG : GlobD w) => fpInv_c b h_lb h_wb w hG⟩
  rw [eA10] at A10
  have eA11 : fe (num a * num b) = m := by exact hm
  have A11 : Keep _ := ⟨fun w (hG : Glob w) => fpMul_c a h_la h_wa b h_lb h_wb w hG⟩
  rw [eA11] at A11
  have eA14 : fe (pw (num i) (PP - 2)) = y := by rw [← hi, fe_inv_inv]; exact hy_
  have A14 : Keep _ := ⟨fun w (hG : GlobD w) => fpInv_c i h_li h_wi w hG⟩
  rw [eA14] at A14
  have hlZ : Z6.length = 6 := rfl
  have LZ : Keep (Z6.length = 6) := ⟨rfl⟩
  have Lone : Keep (([1, 0, 0, 0, 0, 0] : List Int).length = 6) := ⟨rfl⟩
  have EZ := eq6 Z6 rfl
  have E1 := eq6 [1, 0, 0, 0, 0, 0] rfl
  have EX := eqf6 h_lx hlZ (by rw [← hx_, ← fe_zero]; exact fun h => hx ((fe_zero_iff _).1 h))
  have EY := eqt6 h_ly hlZ (by rw [← hy_, ← fe_zero]; exact (fe_zero_iff _).2 hy)
  have EI := eqt6 h_li hlZ (by rw [← hi, ← fe_zero]; exact fe_inv_zero hy)
  have EM := eqt6 h_lm hlZ (by rw [← hm, ← fe_zero]; exact (fe_prod_zero _ _).2 (.inr ((fe_zero_iff _).2 hy)))
  have hgd := gd6
  have HG : Keep (∀ x : World, Below w.heap.size w x → Glob x) := ⟨fun x h => hG.toGlob.keep h⟩
  have HD : Keep (∀ x : World, Below w.heap.size w x → GlobD x) := ⟨fun x h => hG.keep h⟩
  clear hG
  have qa0 : Has ((w.alloc (.cells (vals .u64 a) 25)).alloc (.cells (vals .u64 b) 25)) (w.heap.size) 25 (vals .u64 a) := ((Has.new _ _ _).alloc _)
  have qb0 : Has ((w.alloc (.cells (vals .u64 a) 25)).alloc (.cells (vals .u64 b) 25)) (w.heap.size + 1) 25 (vals .u64 b) := (Has.new' _ (by simp) _ _)
  have hb0 : Below w.heap.size w ((w.alloc (.cells (vals .u64 a) 25)).alloc (.cells (vals .u64 b) 25)) := (((Below.refl _ _).alloc (by simp <;> omega) _).alloc (by simp <;> omega) _)
  have La : Keep _ := ⟨hla⟩
  have Wa : Keep _ := ⟨hwa⟩
  have Lb : Keep _ := ⟨hlb⟩
  have Wb : Keep _ := ⟨hwb⟩
  clear hx_ hy_ hx hy hs hn hd he1 hi hm h_ls h_ws h_ln h_wn h_ld h_wd h_le1 h_we1 h_li h_wi h_lm h_wm h_lx h_wx h_ly h_wy h_la h_wa h_lb h_wb eA1 eA2 eA3 eA4 eA5 eA6 eA7 eA8 eA9 eA10 eA11 eA14 hla hwa hlb hwb hlZ
  go_enter Tryd.func9, Tryd.ntmps9
  go_wp2_with (first
    | (refine wpList_buildTo (by rfl) 25 #[] (by rfl) (some 18) (by rfl) (vals .u64 Z6) (by kernel_rfl) ?_)
    | (refine store_abs2 (by rfl) 25 (.tmp 8) (.tmp 18) (by rfl) (by rfl) w5.heap.size (vals .u64 Z6) (by rfl) (by rfl) 25 (vals .u64 Z6) (Has.new' _ rfl _ _) (by rw [vals_size, LZ.out]; kernel_rfl) (by first | rfl | (rw [vals_size, vals_size, LZ.out]; rfl)) vals_one ?_
       intro w6 qz6 hkeep hbg
       have hbe := ((Below.refl w5.heap.size w5).alloc (Nat.le_refl _) (.cells (vals .u64 Z6) 25)).trans hbg
       have qa6 := qa5.keep hbe
       have qb6 := qb5.keep hbe
       have qx6 := qx5.keep hbe
       have qy6 := qy5.keep hbe
       have hb6 := hb5.trans (hbe.mono hb5.size)
       clear hkeep hbg hbe hb5 qa5 qb5 qx5 qy5)
    | (refine store_abs2 (by rfl) 25 (.tmp 7) (.tmp 17) (by rfl) (by rfl) w4.heap.size (vals .u64 y) (by rfl) (by rfl) 25 (vals .u64 Z6) (Has.new' _ rfl _ _) (by rw [vals_size, Ly.out]; kernel_rfl) (by first | rfl | (rw [vals_size, vals_size, Ly.out]; rfl)) vals_one ?_
       intro w5 qy5 hkeep hbg
       have hbe := ((Below.refl w4.heap.size w4).alloc (Nat.le_refl _) (.cells (vals .u64 Z6) 25)).trans hbg
       have qa5 := qa4.keep hbe
       have qb5 := qb4.keep hbe
       have qx5 := qx4.keep hbe
       have hb5 := hb4.trans (hbe.mono hb4.size)
       clear hkeep hbg hbe hb4 qa4 qb4 qx4)
    | (have q1 := f1
       go_at_call 21
       refine (A2.out _ (HG.out _ hb3)).mono ?_
       rintro e w4 ⟨rfl, hq⟩
       have qa4 := qa3.keep hq
       have qb4 := qb3.keep hq
       have qx4 := qx3.keep hq
       have hb4 := hb3.trans (hq.mono hb3.size)
       clear hq hb3 qa3 qb3 qx3)
    | (refine wpList_load_row rfl 25 (.tmp 3) rfl (w.heap.size + 1) rfl _ _ _ _ qb3.eq Tryd.underlying25 rfl (by rw [vals_size, Lb.out]; kernel_rfl) ?_)
    | (refine store_abs2 (by rfl) 25 (.tmp 6) (.tmp 15) (by rfl) (by rfl) w2.heap.size (vals .u64 x) (by rfl) (by rfl) 25 (vals .u64 Z6) (Has.new' _ rfl _ _) (by rw [vals_size, Lx.out]; kernel_rfl) (by first | rfl | (rw [vals_size, vals_size, Lx.out]; rfl)) vals_one ?_
       intro w3 qx3 hkeep hbg
       have hbe := ((Below.refl w2.heap.size w2).alloc (Nat.le_refl _) (.cells (vals .u64 Z6) 25)).trans hbg
       have qa3 := qa2.keep hbe
       have qb3 := qb2.keep hbe
       have hb3 := hb2.trans (hbe.mono hb2.size)
       clear hkeep hbg hbe hb2 qa2 qb2
       have f1 := True.intro)
    | (go_at_call 21
       refine (A1.out _ (HG.out _ hb1)).mono ?_
       rintro e w2 ⟨rfl, hq⟩
       have qa2 := qa1.keep hq
       have qb2 := qb1.keep hq
       have hb2 := hb1.trans (hq.mono hb1.size)
       clear hq hb1 qa1 qb1)
    | (refine wpList_load_row rfl 25 (.tmp 2) rfl (w.heap.size) rfl _ _ _ _ qa1.eq Tryd.underlying25 rfl (by rw [vals_size, La.out]; kernel_rfl) ?_)
    | (go_at_call 18
       refine (awake_c _ (HD.out _ hb0)).mono ?_
       rintro e w1 ⟨rfl, hq⟩
       have qa1 := qa0.keep hq
       have qb1 := qb0.keep hq
       have hb1 := hb0.trans (hq.mono hb0.size)
       clear hq hb0 qa0 qb0))
  refine wp_fam_all (by kernel_rfl) (by kernel_rfl) (fun I hI' fw hf hback => ?_)
  have HGf : Keep (∀ j, Glob (fw j)) := ⟨fun j => HG.out _ (hb6.trans ((hf j).mono hb6.size))⟩
  have HDf : Keep (∀ j, GlobD (fw j)) := ⟨fun j => HD.out _ (hb6.trans ((hf j).mono hb6.size))⟩
  repeat (first
    | (go_big_quiet_want
       refine quiet_load_seg 25 (.tmp 2) (by rfl) (w.heap.size) 0 6 (by rfl) 25 .u64 a a _ (fun w' ⟨i, hi⟩ => by rw [hi]; exact qa6.keep (hf i)) Tryd.underlying25 rfl (by kernel_rfl) (by rw [List.drop_zero, take_all La.out]) (by rw [La.out]; omega) ?_
       simp only [Act.put, List.setIfInBounds_toArray, List.set_cons_zero, List.set_cons_succ]
       go_big_quiet_on)
    | (go_big_quiet_want
       refine quiet_load_seg 25 (.tmp 3) (by rfl) (w.heap.size + 1) 0 6 (by rfl) 25 .u64 b b _ (fun w' ⟨i, hi⟩ => by rw [hi]; exact qb6.keep (hf i)) Tryd.underlying25 rfl (by kernel_rfl) (by rw [List.drop_zero, take_all Lb.out]) (by rw [Lb.out]; omega) ?_
       simp only [Act.put, List.setIfInBounds_toArray, List.set_cons_zero, List.set_cons_succ]
       go_big_quiet_on)
    | (go_big_quiet_want
       refine quiet_load_seg 25 (.tmp 6) (by rfl) (w2.heap.size) 0 6 (by rfl) 25 .u64 x x _ (fun w' ⟨i, hi⟩ => by rw [hi]; exact qx6.keep (hf i)) Tryd.underlying25 rfl (by kernel_rfl) (by rw [List.drop_zero, take_all Lx.out]) (by rw [Lx.out]; omega) ?_
       simp only [Act.put, List.setIfInBounds_toArray, List.set_cons_zero, List.set_cons_succ]
       go_big_quiet_on)
    | (go_big_quiet_want
       refine quiet_load_seg 25 (.tmp 7) (by rfl) (w4.heap.size) 0 6 (by rfl) 25 .u64 y y _ (fun w' ⟨i, hi⟩ => by rw [hi]; exact qy6.keep (hf i)) Tryd.underlying25 rfl (by kernel_rfl) (by rw [List.drop_zero, take_all Ly.out]) (by rw [Ly.out]; omega) ?_
       simp only [Act.put, List.setIfInBounds_toArray, List.set_cons_zero, List.set_cons_succ]
       go_big_quiet_on)
    | (go_big_quiet_want
       refine quiet_load_seg 25 (.tmp 8) (by rfl) (w5.heap.size) 0 6 (by rfl) 25 .u64 Z6 Z6 _ (fun w' ⟨i, hi⟩ => by rw [hi]; exact qz6.keep (hf i)) Tryd.underlying25 rfl (by kernel_rfl) (by rw [List.drop_zero, take_all LZ.out]) (by rw [LZ.out]; omega) ?_
       simp only [Act.put, List.setIfInBounds_toArray, List.set_cons_zero, List.set_cons_succ]
       go_big_quiet_on)
    | go_big_quiet_step (first | fail | (go_at_call 23; with_reducible exact calls_fam hf hback (A3.out _ (HGf.out _))) | (go_at_call 25; with_reducible exact calls_fam hf hback (A4.out _ (HGf.out _))) | (go_at_call 27; with_reducible exact calls_fam hf hback (A5.out _ (HGf.out _))) | (go_at_call 23; with_reducible exact calls_fam hf hback (A6.out _ (HGf.out _))) | (go_at_call 25; with_reducible exact calls_fam hf hback (A7.out _ (HGf.out _))) | (go_at_call 25; with_reducible exact calls_fam hf hback (A8.out _ (HGf.out _))) | (go_at_call 27; with_reducible exact calls_fam hf hback (A9.out _ (HGf.out _)))))
  refine wpQuiet_nil ?_
  intro w7 hq
  have qa7 := qa6.keep hq
  have qb7 := qb6.keep hq
  have qx7 := qx6.keep hq
  have qy7 := qy6.keep hq
  have qz7 := qz6.keep hq
  have hb7 := hb6.trans (hq.mono hb6.size)
  clear HDf HGf hf hback hq qa6 qb6 qx6 qy6 qz6 hb6 
  go_wp2_with (first
    | (refine store_abs2 (by rfl) 25 (.tmp 10) (.tmp 45) (by rfl) (by rfl) w8.heap.size (vals .u64 i) (by rfl) (by rfl) 25 (vals .u64 Z6) (Has.new' _ rfl _ _) (by rw [vals_size, Li.out]; kernel_rfl) (by first | rfl | (rw [vals_size, vals_size, Li.out]; rfl)) vals_one ?_
       intro w9 qi9 hkeep hbg
       have hbe := ((Below.refl w8.heap.size w8).alloc (Nat.le_refl _) (.cells (vals .u64 Z6) 25)).trans hbg
       have qa9 := qa8.keep hbe
       have qb9 := qb8.keep hbe
       have qx9 := qx8.keep hbe
       have qy9 := qy8.keep hbe
       have qz9 := qz8.keep hbe
       have hb9 := hb8.trans (hbe.mono hb8.size)
       clear hkeep hbg hbe hb8 qa8 qb8 qx8 qy8 qz8)
    | (go_at_call 31
       refine (A10.out _ (HD.out _ hb7)).mono ?_
       rintro e w8 ⟨rfl, hq⟩
       have qa8 := qa7.keep hq
       have qb8 := qb7.keep hq
       have qx8 := qx7.keep hq
       have qy8 := qy7.keep hq
       have qz8 := qz7.keep hq
       have hb8 := hb7.trans (hq.mono hb7.size)
       clear hq hb7 qa7 qb7 qx7 qy7 qz7)
    | (refine wpList_load_row rfl 25 (.tmp 3) rfl (w.heap.size + 1) rfl _ _ _ _ qb7.eq Tryd.underlying25 rfl (by rw [vals_size, Lb.out]; kernel_rfl) ?_))
  refine wp_fam_all (by kernel_rfl) (by kernel_rfl) (fun I hI' fw hf hback => ?_)
  have HGf : Keep (∀ j, Glob (fw j)) := ⟨fun j => HG.out _ (hb9.trans ((hf j).mono hb9.size))⟩
  have HDf : Keep (∀ j, GlobD (fw j)) := ⟨fun j => HD.out _ (hb9.trans ((hf j).mono hb9.size))⟩
  repeat (first
    | (go_big_quiet_want
       refine quiet_load_seg 25 (.tmp 2) (by rfl) (w.heap.size) 0 6 (by rfl) 25 .u64 a a _ (fun w' ⟨i, hi⟩ => by rw [hi]; exact qa9.keep (hf i)) Tryd.underlying25 rfl (by kernel_rfl) (by rw [List.drop_zero, take_all La.out]) (by rw [La.out]; omega) ?_
       simp only [Act.put, List.setIfInBounds_toArray, List.set_cons_zero, List.set_cons_succ]
       go_big_quiet_on)
    | (go_big_quiet_want
       refine quiet_load_seg 25 (.tmp 3) (by rfl) (w.heap.size + 1) 0 6 (by rfl) 25 .u64 b b _ (fun w' ⟨i, hi⟩ => by rw [hi]; exact qb9.keep (hf i)) Tryd.underlying25 rfl (by kernel_rfl) (by rw [List.drop_zero, take_all Lb.out]) (by rw [Lb.out]; omega) ?_
       simp only [Act.put, List.setIfInBounds_toArray, List.set_cons_zero, List.set_cons_succ]
       go_big_quiet_on)
    | (go_big_quiet_want
       refine quiet_load_seg 25 (.tmp 6) (by rfl) (w2.heap.size) 0 6 (by rfl) 25 .u64 x x _ (fun w' ⟨i, hi⟩ => by rw [hi]; exact qx9.keep (hf i)) Tryd.underlying25 rfl (by kernel_rfl) (by rw [List.drop_zero, take_all Lx.out]) (by rw [Lx.out]; omega) ?_
       simp only [Act.put, List.setIfInBounds_toArray, List.set_cons_zero, List.set_cons_succ]
       go_big_quiet_on)
    | (go_big_quiet_want
       refine quiet_load_seg 25 (.tmp 7) (by rfl) (w4.heap.size) 0 6 (by rfl) 25 .u64 y y _ (fun w' ⟨i, hi⟩ => by rw [hi]; exact qy9.keep (hf i)) Tryd.underlying25 rfl (by kernel_rfl) (by rw [List.drop_zero, take_all Ly.out]) (by rw [Ly.out]; omega) ?_
       simp only [Act.put, List.setIfInBounds_toArray, List.set_cons_zero, List.set_cons_succ]
       go_big_quiet_on)
    | (go_big_quiet_want
       refine quiet_load_seg 25 (.tmp 8) (by rfl) (w5.heap.size) 0 6 (by rfl) 25 .u64 Z6 Z6 _ (fun w' ⟨i, hi⟩ => by rw [hi]; exact qz9.keep (hf i)) Tryd.underlying25 rfl (by kernel_rfl) (by rw [List.drop_zero, take_all LZ.out]) (by rw [LZ.out]; omega) ?_
       simp only [Act.put, List.setIfInBounds_toArray, List.set_cons_zero, List.set_cons_succ]
       go_big_quiet_on)
    | (go_big_quiet_want
       refine quiet_load_seg 25 (.tmp 10) (by rfl) (w8.heap.size) 0 6 (by rfl) 25 .u64 i i _ (fun w' ⟨i, hi⟩ => by rw [hi]; exact qi9.keep (hf i)) Tryd.underlying25 rfl (by kernel_rfl) (by rw [List.drop_zero, take_all Li.out]) (by rw [Li.out]; omega) ?_
       simp only [Act.put, List.setIfInBounds_toArray, List.set_cons_zero, List.set_cons_succ]
       go_big_quiet_on)
    | (go_big_quiet_want
       refine quiet_build 25 #[(0, .const (.int .u64 1))] (by rfl) (vals .u64 [1, 0, 0, 0, 0, 0]) (by kernel_rfl) ?_
       simp only [Act.put, List.setIfInBounds_toArray, List.set_cons_zero, List.set_cons_succ]
       go_big_quiet_on)
    | go_big_quiet_step (first | fail | (go_at_call 29; with_reducible exact calls_fam hf hback (A11.out _ (HGf.out _)))))
  refine wpQuiet_nil ?_
  intro w10 hq
  have qa10 := qa9.keep hq
  have qb10 := qb9.keep hq
  have qx10 := qx9.keep hq
  have qy10 := qy9.keep hq
  have qz10 := qz9.keep hq
  have qi10 := qi9.keep hq
  have hb10 := hb9.trans (hq.mono hb9.size)
  clear HDf HGf hf hback hq qa9 qb9 qx9 qy9 qz9 qi9 hb9 
  go_wp2
  refine wp_fam_all (by kernel_rfl) (by kernel_rfl) (fun I hI' fw hf hback => ?_)
  have HGf : Keep (∀ j, Glob (fw j)) := ⟨fun j => HG.out _ (hb10.trans ((hf j).mono hb10.size))⟩
  have HDf : Keep (∀ j, GlobD (fw j)) := ⟨fun j => HD.out _ (hb10.trans ((hf j).mono hb10.size))⟩
  repeat (first
    | (go_big_quiet_want
       refine quiet_load_seg 25 (.tmp 2) (by rfl) (w.heap.size) 0 6 (by rfl) 25 .u64 a a _ (fun w' ⟨i, hi⟩ => by rw [hi]; exact qa10.keep (hf i)) Tryd.underlying25 rfl (by kernel_rfl) (by rw [List.drop_zero, take_all La.out]) (by rw [La.out]; omega) ?_
       simp only [Act.put, List.setIfInBounds_toArray, List.set_cons_zero, List.set_cons_succ]
       go_big_quiet_on)
    | (go_big_quiet_want
       refine quiet_load_seg 25 (.tmp 3) (by rfl) (w.heap.size + 1) 0 6 (by rfl) 25 .u64 b b _ (fun w' ⟨i, hi⟩ => by rw [hi]; exact qb10.keep (hf i)) Tryd.underlying25 rfl (by kernel_rfl) (by rw [List.drop_zero, take_all Lb.out]) (by rw [Lb.out]; omega) ?_
       simp only [Act.put, List.setIfInBounds_toArray, List.set_cons_zero, List.set_cons_succ]
       go_big_quiet_on)
    | (go_big_quiet_want
       refine quiet_load_seg 25 (.tmp 6) (by rfl) (w2.heap.size) 0 6 (by rfl) 25 .u64 x x _ (fun w' ⟨i, hi⟩ => by rw [hi]; exact qx10.keep (hf i)) Tryd.underlying25 rfl (by kernel_rfl) (by rw [List.drop_zero, take_all Lx.out]) (by rw [Lx.out]; omega) ?_
       simp only [Act.put, List.setIfInBounds_toArray, List.set_cons_zero, List.set_cons_succ]
       go_big_quiet_on)
    | (go_big_quiet_want
       refine quiet_load_seg 25 (.tmp 7) (by rfl) (w4.heap.size) 0 6 (by rfl) 25 .u64 y y _ (fun w' ⟨i, hi⟩ => by rw [hi]; exact qy10.keep (hf i)) Tryd.underlying25 rfl (by kernel_rfl) (by rw [List.drop_zero, take_all Ly.out]) (by rw [Ly.out]; omega) ?_
       simp only [Act.put, List.setIfInBounds_toArray, List.set_cons_zero, List.set_cons_succ]
       go_big_quiet_on)
    | (go_big_quiet_want
       refine quiet_load_seg 25 (.tmp 8) (by rfl) (w5.heap.size) 0 6 (by rfl) 25 .u64 Z6 Z6 _ (fun w' ⟨i, hi⟩ => by rw [hi]; exact qz10.keep (hf i)) Tryd.underlying25 rfl (by kernel_rfl) (by rw [List.drop_zero, take_all LZ.out]) (by rw [LZ.out]; omega) ?_
       simp only [Act.put, List.setIfInBounds_toArray, List.set_cons_zero, List.set_cons_succ]
       go_big_quiet_on)
    | go_big_quiet_step (first | fail | (go_at_call 29; with_reducible exact calls_fam hf hback (A11.out _ (HGf.out _)))))
  refine wpQuiet_nil ?_
  intro w11 hq
  have qa11 := qa10.keep hq
  have qb11 := qb10.keep hq
  have qx11 := qx10.keep hq
  have qy11 := qy10.keep hq
  have qz11 := qz10.keep hq
  have qi11 := qi10.keep hq
  have hb11 := hb10.trans (hq.mono hb10.size)
  clear HDf HGf hf hback hq qa10 qb10 qx10 qy10 qz10 qi10 hb10 
  go_wp2
  refine wp_fam_all (by kernel_rfl) (by kernel_rfl) (fun I hI' fw hf hback => ?_)
  have HGf : Keep (∀ j, Glob (fw j)) := ⟨fun j => HG.out _ (hb11.trans ((hf j).mono hb11.size))⟩
  have HDf : Keep (∀ j, GlobD (fw j)) := ⟨fun j => HD.out _ (hb11.trans ((hf j).mono hb11.size))⟩
  repeat (first
    | (go_big_quiet_want
       refine quiet_load_seg 25 (.tmp 2) (by rfl) (w.heap.size) 0 6 (by rfl) 25 .u64 a a _ (fun w' ⟨i, hi⟩ => by rw [hi]; exact qa11.keep (hf i)) Tryd.underlying25 rfl (by kernel_rfl) (by rw [List.drop_zero, take_all La.out]) (by rw [La.out]; omega) ?_
       simp only [Act.put, List.setIfInBounds_toArray, List.set_cons_zero, List.set_cons_succ]
       go_big_quiet_on)
    | (go_big_quiet_want
       refine quiet_load_seg 25 (.tmp 3) (by rfl) (w.heap.size + 1) 0 6 (by rfl) 25 .u64 b b _ (fun w' ⟨i, hi⟩ => by rw [hi]; exact qb11.keep (hf i)) Tryd.underlying25 rfl (by kernel_rfl) (by rw [List.drop_zero, take_all Lb.out]) (by rw [Lb.out]; omega) ?_
       simp only [Act.put, List.setIfInBounds_toArray, List.set_cons_zero, List.set_cons_succ]
       go_big_quiet_on)
    | (go_big_quiet_want
       refine quiet_load_seg 25 (.tmp 6) (by rfl) (w2.heap.size) 0 6 (by rfl) 25 .u64 x x _ (fun w' ⟨i, hi⟩ => by rw [hi]; exact qx11.keep (hf i)) Tryd.underlying25 rfl (by kernel_rfl) (by rw [List.drop_zero, take_all Lx.out]) (by rw [Lx.out]; omega) ?_
       simp only [Act.put, List.setIfInBounds_toArray, List.set_cons_zero, List.set_cons_succ]
       go_big_quiet_on)
    | (go_big_quiet_want
       refine quiet_load_seg 25 (.tmp 7) (by rfl) (w4.heap.size) 0 6 (by rfl) 25 .u64 y y _ (fun w' ⟨i, hi⟩ => by rw [hi]; exact qy11.keep (hf i)) Tryd.underlying25 rfl (by kernel_rfl) (by rw [List.drop_zero, take_all Ly.out]) (by rw [Ly.out]; omega) ?_
       simp only [Act.put, List.setIfInBounds_toArray, List.set_cons_zero, List.set_cons_succ]
       go_big_quiet_on)
    | (go_big_quiet_want
       refine quiet_load_seg 25 (.tmp 8) (by rfl) (w5.heap.size) 0 6 (by rfl) 25 .u64 Z6 Z6 _ (fun w' ⟨i, hi⟩ => by rw [hi]; exact qz11.keep (hf i)) Tryd.underlying25 rfl (by kernel_rfl) (by rw [List.drop_zero, take_all LZ.out]) (by rw [LZ.out]; omega) ?_
       simp only [Act.put, List.setIfInBounds_toArray, List.set_cons_zero, List.set_cons_succ]
       go_big_quiet_on)
    | (go_big_quiet_want
       refine quiet_load_seg 25 (.tmp 10) (by rfl) (w8.heap.size) 0 6 (by rfl) 25 .u64 i i _ (fun w' ⟨i, hi⟩ => by rw [hi]; exact qi11.keep (hf i)) Tryd.underlying25 rfl (by kernel_rfl) (by rw [List.drop_zero, take_all Li.out]) (by rw [Li.out]; omega) ?_
       simp only [Act.put, List.setIfInBounds_toArray, List.set_cons_zero, List.set_cons_succ]
       go_big_quiet_on)
    | go_big_quiet_step (first | fail | (go_at_call 31; with_reducible exact calls_fam hf hback (A14.out _ (HDf.out _)))))
  refine wpQuiet_nil ?_
  intro w12 hq
  have hb12 := hb11.trans (hq.mono hb11.size)
  clear HDf HGf hf hback hq  hb11 qa11 qb11 qx11 qy11 qz11 qi11
  go_wp2
  go_ret
  exact ⟨rfl, hb12⟩

set_option maxRecDepth 100000 in
set_option maxHeartbeats 4000000 in
theorem fpUndoes_yy (a : List Int) (hla : a.length = 6) (hwa : Words a) (b : List Int) (hlb : b.length = 6) (hwb : Words b) (hx : num a % PP = 0) (hy : num b % PP = 0) (w : World) (hG : GlobD w) : Calls Tryd.prog 9 #[.agg (vals .u64 a), .agg (vals .u64 b)] w fun e w' => e = .returned (.bool true) ∧ Below w.heap.size w w' := by
  have h_la := hla
  have h_wa := hwa
  have h_lb := hlb
  have h_wb := hwb
  obtain ⟨x, hx_⟩ : ∃ o, fe (num a) = o := ⟨_, rfl⟩
  have h_lx : x.length = 6 := by rw [← hx_]; exact fe_len _
  have h_wx : Words x := by rw [← hx_]; exact fe_words _
  have Ex := eq6 x h_lx
  have Lx : Keep (x.length = 6) := ⟨h_lx⟩
  obtain ⟨y, hy_⟩ : ∃ o, fe (num b) = o := ⟨_, rfl⟩
  have h_ly : y.length = 6 := by rw [← hy_]; exact fe_len _
  have h_wy : Words y := by rw [← hy_]; exact fe_words _
  have Ey := eq6 y h_ly
  have Ly : Keep (y.length = 6) := ⟨h_ly⟩
  obtain ⟨s, hs⟩ : ∃ o, fe (num a + num b) = o := ⟨_, rfl⟩
  have h_ls : s.length = 6 := by rw [← hs]; exact fe_len _
  have h_ws : Words s := by rw [← hs]; exact fe_words _
  have Es := eq6 s h_ls
  have Ls : Keep (s.length = 6) := ⟨h_ls⟩
  obtain ⟨n, hn⟩ : ∃ o, fe (-num a) = o := ⟨_, rfl⟩
  have h_ln : n.length = 6 := by rw [← hn]; exact fe_len _
  have h_wn : Words n := by rw [← hn]; exact fe_words _
  have En := eq6 n h_ln
  have Ln : Keep (n.length = 6) := ⟨h_ln⟩
  obtain ⟨d, hd⟩ : ∃ o, fe (num a - num b) = o := ⟨_, rfl⟩
  have h_ld : d.length = 6 := by rw [← hd]; exact fe_len _
  have h_wd : Words d := by rw [← hd]; exact fe_words _
  have Ed := eq6 d h_ld
  have Ld : Keep (d.length = 6) := ⟨h_ld⟩
  obtain ⟨e1, he1⟩ : ∃ o, fe (num b - num a) = o := ⟨_, rfl⟩
  have h_le1 : e1.length = 6 := by rw [← he1]; exact fe_len _
  have h_we1 : Words e1 := by rw [← he1]; exact fe_words _
  have Ee1 := eq6 e1 h_le1
  have Le1 : Keep (e1.length = 6) := ⟨h_le1⟩
  obtain ⟨i, hi⟩ : ∃ o, fe (pw (num b) (PP - 2)) = o := ⟨_, rfl⟩
  have h_li : i.length = 6 := by rw [← hi]; exact fe_len _
  have h_wi : Words i := by rw [← hi]; exact fe_words _
  have Ei := eq6 i h_li
  have Li : Keep (i.length = 6) := ⟨h_li⟩
  obtain ⟨m, hm⟩ : ∃ o, fe (num a * num b) = o := ⟨_, rfl⟩
  have h_lm : m.length = 6 := by rw [← hm]; exact fe_len _
  have h_wm : Words m := by rw [← hm]; exact fe_words _
  have Em := eq6 m h_lm
  have Lm : Keep (m.length = 6) := ⟨h_lm⟩
  have eA1 : fe (num a) = x := by exact hx_
  have A1 : Keep _ := ⟨fun w (hG : Glob w) => fpReduce_c a h_la h_wa w hG⟩
  rw [eA1] at A1
  have eA2 : fe (num b) = y := by exact hy_
  have A2 : Keep _ := ⟨fun w (hG : Glob w) => fpReduce_c b h_lb h_wb w hG⟩
  rw [eA2] at A2
  have eA3 : fe (num a + num b) = s := by exact hs
  have A3 : Keep _ := ⟨fun w (hG : Glob w) => fpAdd_c a h_la h_wa b h_lb h_wb w hG⟩
  rw [eA3] at A3
  have eA4 : fe (num s - num b) = x := by rw [← hs, fe_subl, ← hx_]; congr 1; omega
  have A4 : Keep _ := ⟨fun w (hG : Glob w) => fpSub_c s h_ls h_ws b h_lb h_wb w hG⟩
  rw [eA4] at A4
  have eA5 : fe (-num a) = n := by exact hn
  have A5 : Keep _ := ⟨fun w (hG : Glob w) => fpNeg_c a h_la h_wa w hG⟩
  rw [eA5] at A5
  have eA6 : fe (num a + num n) = Z6 := by rw [← hn, fe_addr, ← fe_zero]; congr 1; omega
  have A6 : Keep _ := ⟨fun w (hG : Glob w) => fpAdd_c a h_la h_wa n h_ln h_wn w hG⟩
  rw [eA6] at A6
  have eA7 : fe (num a - num b) = d := by exact hd
  have A7 : Keep _ := ⟨fun w (hG : Glob w) => fpSub_c a h_la h_wa b h_lb h_wb w hG⟩
  rw [eA7] at A7
  have eA8 : fe (num b - num a) = e1 := by exact he1
  have A8 : Keep _ := ⟨fun w (hG : Glob w) => fpSub_c b h_lb h_wb a h_la h_wa w hG⟩
  rw [eA8] at A8
  have eA9 : fe (-num e1) = d := by rw [← he1, fe_neg, ← hd]; congr 1; omega
  have A9 : Keep _ := ⟨fun w (hG : Glob w) => fpNeg_c e1 h_le1 h_we1 w hG⟩
  rw [eA9] at A9
  have eA10 : fe (pw (num b) (PP - 2)) = i := by exact hi
  have A10 : Keep _ := ⟨fun w (hG : GlobD w) => fpInv_c b h_lb h_wb w hG⟩
  rw [eA10] at A10
  have eA11 : fe (num a * num b) = m := by exact hm
  have A11 : Keep _ := ⟨fun w (hG : Glob w) => fpMul_c a h_la h_wa b h_lb h_wb w hG⟩
  rw [eA11] at A11
  have eA14 : fe (pw (num i) (PP - 2)) = y := by rw [← hi, fe_inv_inv]; exact hy_
  have A14 : Keep _ := ⟨fun w (hG : GlobD w) => fpInv_c i h_li h_wi w hG⟩
  rw [eA14] at A14
  have hlZ : Z6.length = 6 := rfl
  have LZ : Keep (Z6.length = 6) := ⟨rfl⟩
  have Lone : Keep (([1, 0, 0, 0, 0, 0] : List Int).length = 6) := ⟨rfl⟩
  have EZ := eq6 Z6 rfl
  have E1 := eq6 [1, 0, 0, 0, 0, 0] rfl
  have EX := eqt6 h_lx hlZ (by rw [← hx_, ← fe_zero]; exact (fe_zero_iff _).2 hx)
  have EY := eqt6 h_ly hlZ (by rw [← hy_, ← fe_zero]; exact (fe_zero_iff _).2 hy)
  have EI := eqt6 h_li hlZ (by rw [← hi, ← fe_zero]; exact fe_inv_zero hy)
  have EM := eqt6 h_lm hlZ (by rw [← hm, ← fe_zero]; exact (fe_prod_zero _ _).2 (.inl ((fe_zero_iff _).2 hx)))
  have hgd := gd6
  have HG : Keep (∀ x : World, Below w.heap.size w x → Glob x) := ⟨fun x h => hG.toGlob.keep h⟩
  have HD : Keep (∀ x : World, Below w.heap.size w x → GlobD x) := ⟨fun x h => hG.keep h⟩
  clear hG
  have qa0 : Has ((w.alloc (.cells (vals .u64 a) 25)).alloc (.cells (vals .u64 b) 25)) (w.heap.size) 25 (vals .u64 a) := ((Has.new _ _ _).alloc _)
  have qb0 : Has ((w.alloc (.cells (vals .u64 a) 25)).alloc (.cells (vals .u64 b) 25)) (w.heap.size + 1) 25 (vals .u64 b) := (Has.new' _ (by simp) _ _)
  have hb0 : Below w.heap.size w ((w.alloc (.cells (vals .u64 a) 25)).alloc (.cells (vals .u64 b) 25)) := (((Below.refl _ _).alloc (by simp <;> omega) _).alloc (by simp <;> omega) _)
  have La : Keep _ := ⟨hla⟩
  have Wa : Keep _ := ⟨hwa⟩
  have Lb : Keep _ := ⟨hlb⟩
  have Wb : Keep _ := ⟨hwb⟩
  clear hx_ hy_ hx hy hs hn hd he1 hi hm h_ls h_ws h_ln h_wn h_ld h_wd h_le1 h_we1 h_li h_wi h_lm h_wm h_lx h_wx h_ly h_wy h_la h_wa h_lb h_wb eA1 eA2 eA3 eA4 eA5 eA6 eA7 eA8 eA9 eA10 eA11 eA14 hla hwa hlb hwb hlZ
  go_enter Tryd.func9, Tryd.ntmps9
  go_wp2_with (first
    | (refine wpList_buildTo (by rfl) 25 #[] (by rfl) (some 18) (by rfl) (vals .u64 Z6) (by kernel_rfl) ?_)
    | (refine store_abs2 (by rfl) 25 (.tmp 8) (.tmp 18) (by rfl) (by rfl) w5.heap.size (vals .u64 Z6) (by rfl) (by rfl) 25 (vals .u64 Z6) (Has.new' _ rfl _ _) (by rw [vals_size, LZ.out]; kernel_rfl) (by first | rfl | (rw [vals_size, vals_size, LZ.out]; rfl)) vals_one ?_
       intro w6 qz6 hkeep hbg
       have hbe := ((Below.refl w5.heap.size w5).alloc (Nat.le_refl _) (.cells (vals .u64 Z6) 25)).trans hbg
       have qa6 := qa5.keep hbe
       have qb6 := qb5.keep hbe
       have qx6 := qx5.keep hbe
       have qy6 := qy5.keep hbe
       have hb6 := hb5.trans (hbe.mono hb5.size)
       clear hkeep hbg hbe hb5 qa5 qb5 qx5 qy5)
    | (refine store_abs2 (by rfl) 25 (.tmp 7) (.tmp 17) (by rfl) (by rfl) w4.heap.size (vals .u64 y) (by rfl) (by rfl) 25 (vals .u64 Z6) (Has.new' _ rfl _ _) (by rw [vals_size, Ly.out]; kernel_rfl) (by first | rfl | (rw [vals_size, vals_size, Ly.out]; rfl)) vals_one ?_
       intro w5 qy5 hkeep hbg
       have hbe := ((Below.refl w4.heap.size w4).alloc (Nat.le_refl _) (.cells (vals .u64 Z6) 25)).trans hbg
       have qa5 := qa4.keep hbe
       have qb5 := qb4.keep hbe
       have qx5 := qx4.keep hbe
       have hb5 := hb4.trans (hbe.mono hb4.size)
       clear hkeep hbg hbe hb4 qa4 qb4 qx4)
    | (have q1 := f1
       go_at_call 21
       refine (A2.out _ (HG.out _ hb3)).mono ?_
       rintro e w4 ⟨rfl, hq⟩
       have qa4 := qa3.keep hq
       have qb4 := qb3.keep hq
       have qx4 := qx3.keep hq
       have hb4 := hb3.trans (hq.mono hb3.size)
       clear hq hb3 qa3 qb3 qx3)
    | (refine wpList_load_row rfl 25 (.tmp 3) rfl (w.heap.size + 1) rfl _ _ _ _ qb3.eq Tryd.underlying25 rfl (by rw [vals_size, Lb.out]; kernel_rfl) ?_)
    | (refine store_abs2 (by rfl) 25 (.tmp 6) (.tmp 15) (by rfl) (by rfl) w2.heap.size (vals .u64 x) (by rfl) (by rfl) 25 (vals .u64 Z6) (Has.new' _ rfl _ _) (by rw [vals_size, Lx.out]; kernel_rfl) (by first | rfl | (rw [vals_size, vals_size, Lx.out]; rfl)) vals_one ?_
       intro w3 qx3 hkeep hbg
       have hbe := ((Below.refl w2.heap.size w2).alloc (Nat.le_refl _) (.cells (vals .u64 Z6) 25)).trans hbg
       have qa3 := qa2.keep hbe
       have qb3 := qb2.keep hbe
       have hb3 := hb2.trans (hbe.mono hb2.size)
       clear hkeep hbg hbe hb2 qa2 qb2
       have f1 := True.intro)
    | (go_at_call 21
       refine (A1.out _ (HG.out _ hb1)).mono ?_
       rintro e w2 ⟨rfl, hq⟩
       have qa2 := qa1.keep hq
       have qb2 := qb1.keep hq
       have hb2 := hb1.trans (hq.mono hb1.size)
       clear hq hb1 qa1 qb1)
    | (refine wpList_load_row rfl 25 (.tmp 2) rfl (w.heap.size) rfl _ _ _ _ qa1.eq Tryd.underlying25 rfl (by rw [vals_size, La.out]; kernel_rfl) ?_)
    | (go_at_call 18
       refine (awake_c _ (HD.out _ hb0)).mono ?_
       rintro e w1 ⟨rfl, hq⟩
       have qa1 := qa0.keep hq
       have qb1 := qb0.keep hq
       have hb1 := hb0.trans (hq.mono hb0.size)
       clear hq hb0 qa0 qb0))
  refine wp_fam_all (by kernel_rfl) (by kernel_rfl) (fun I hI' fw hf hback => ?_)
  have HGf : Keep (∀ j, Glob (fw j)) := ⟨fun j => HG.out _ (hb6.trans ((hf j).mono hb6.size))⟩
  have HDf : Keep (∀ j, GlobD (fw j)) := ⟨fun j => HD.out _ (hb6.trans ((hf j).mono hb6.size))⟩
  repeat (first
    | (go_big_quiet_want
       refine quiet_load_seg 25 (.tmp 2) (by rfl) (w.heap.size) 0 6 (by rfl) 25 .u64 a a _ (fun w' ⟨i, hi⟩ => by rw [hi]; exact qa6.keep (hf i)) Tryd.underlying25 rfl (by kernel_rfl) (by rw [List.drop_zero, take_all La.out]) (by rw [La.out]; omega) ?_
       simp only [Act.put, List.setIfInBounds_toArray, List.set_cons_zero, List.set_cons_succ]
       go_big_quiet_on)
    | (go_big_quiet_want
       refine quiet_load_seg 25 (.tmp 3) (by rfl) (w.heap.size + 1) 0 6 (by rfl) 25 .u64 b b _ (fun w' ⟨i, hi⟩ => by rw [hi]; exact qb6.keep (hf i)) Tryd.underlying25 rfl (by kernel_rfl) (by rw [List.drop_zero, take_all Lb.out]) (by rw [Lb.out]; omega) ?_
       simp only [Act.put, List.setIfInBounds_toArray, List.set_cons_zero, List.set_cons_succ]
       go_big_quiet_on)
    | (go_big_quiet_want
       refine quiet_load_seg 25 (.tmp 6) (by rfl) (w2.heap.size) 0 6 (by rfl) 25 .u64 x x _ (fun w' ⟨i, hi⟩ => by rw [hi]; exact qx6.keep (hf i)) Tryd.underlying25 rfl (by kernel_rfl) (by rw [List.drop_zero, take_all Lx.out]) (by rw [Lx.out]; omega) ?_
       simp only [Act.put, List.setIfInBounds_toArray, List.set_cons_zero, List.set_cons_succ]
       go_big_quiet_on)
    | (go_big_quiet_want
       refine quiet_load_seg 25 (.tmp 7) (by rfl) (w4.heap.size) 0 6 (by rfl) 25 .u64 y y _ (fun w' ⟨i, hi⟩ => by rw [hi]; exact qy6.keep (hf i)) Tryd.underlying25 rfl (by kernel_rfl) (by rw [List.drop_zero, take_all Ly.out]) (by rw [Ly.out]; omega) ?_
       simp only [Act.put, List.setIfInBounds_toArray, List.set_cons_zero, List.set_cons_succ]
       go_big_quiet_on)
    | (go_big_quiet_want
       refine quiet_load_seg 25 (.tmp 8) (by rfl) (w5.heap.size) 0 6 (by rfl) 25 .u64 Z6 Z6 _ (fun w' ⟨i, hi⟩ => by rw [hi]; exact qz6.keep (hf i)) Tryd.underlying25 rfl (by kernel_rfl) (by rw [List.drop_zero, take_all LZ.out]) (by rw [LZ.out]; omega) ?_
       simp only [Act.put, List.setIfInBounds_toArray, List.set_cons_zero, List.set_cons_succ]
       go_big_quiet_on)
    | go_big_quiet_step (first | fail | (go_at_call 23; with_reducible exact calls_fam hf hback (A3.out _ (HGf.out _))) | (go_at_call 25; with_reducible exact calls_fam hf hback (A4.out _ (HGf.out _))) | (go_at_call 27; with_reducible exact calls_fam hf hback (A5.out _ (HGf.out _))) | (go_at_call 23; with_reducible exact calls_fam hf hback (A6.out _ (HGf.out _))) | (go_at_call 25; with_reducible exact calls_fam hf hback (A7.out _ (HGf.out _))) | (go_at_call 25; with_reducible exact calls_fam hf hback (A8.out _ (HGf.out _))) | (go_at_call 27; with_reducible exact calls_fam hf hback (A9.out _ (HGf.out _)))))
  refine wpQuiet_nil ?_
  intro w7 hq
  have qa7 := qa6.keep hq
  have qb7 := qb6.keep hq
  have qx7 := qx6.keep hq
  have qy7 := qy6.keep hq
  have qz7 := qz6.keep hq
  have hb7 := hb6.trans (hq.mono hb6.size)
  clear HDf HGf hf hback hq qa6 qb6 qx6 qy6 qz6 hb6 
  go_wp2_with (first
    | (refine store_abs2 (by rfl) 25 (.tmp 10) (.tmp 45) (by rfl) (by rfl) w8.heap.size (vals .u64 i) (by rfl) (by rfl) 25 (vals .u64 Z6) (Has.new' _ rfl _ _) (by rw [vals_size, Li.out]; kernel_rfl) (by first | rfl | (rw [vals_size, vals_size, Li.out]; rfl)) vals_one ?_
       intro w9 qi9 hkeep hbg
       have hbe := ((Below.refl w8.heap.size w8).alloc (Nat.le_refl _) (.cells (vals .u64 Z6) 25)).trans hbg
       have qa9 := qa8.keep hbe
       have qb9 := qb8.keep hbe
       have qx9 := qx8.keep hbe
       have qy9 := qy8.keep hbe
       have qz9 := qz8.keep hbe
       have hb9 := hb8.trans (hbe.mono hb8.size)
       clear hkeep hbg hbe hb8 qa8 qb8 qx8 qy8 qz8)
    | (go_at_call 31
       refine (A10.out _ (HD.out _ hb7)).mono ?_
       rintro e w8 ⟨rfl, hq⟩
       have qa8 := qa7.keep hq
       have qb8 := qb7.keep hq
       have qx8 := qx7.keep hq
       have qy8 := qy7.keep hq
       have qz8 := qz7.keep hq
       have hb8 := hb7.trans (hq.mono hb7.size)
       clear hq hb7 qa7 qb7 qx7 qy7 qz7)
    | (refine wpList_load_row rfl 25 (.tmp 3) rfl (w.heap.size + 1) rfl _ _ _ _ qb7.eq Tryd.underlying25 rfl (by rw [vals_size, Lb.out]; kernel_rfl) ?_))
  refine wp_fam_all (by kernel_rfl) (by kernel_rfl) (fun I hI' fw hf hback => ?_)
  have HGf : Keep (∀ j, Glob (fw j)) := ⟨fun j => HG.out _ (hb9.trans ((hf j).mono hb9.size))⟩
  have HDf : Keep (∀ j, GlobD (fw j)) := ⟨fun j => HD.out _ (hb9.trans ((hf j).mono hb9.size))⟩
  repeat (first
    | (go_big_quiet_want
       refine quiet_load_seg 25 (.tmp 2) (by rfl) (w.heap.size) 0 6 (by rfl) 25 .u64 a a _ (fun w' ⟨i, hi⟩ => by rw [hi]; exact qa9.keep (hf i)) Tryd.underlying25 rfl (by kernel_rfl) (by rw [List.drop_zero, take_all La.out]) (by rw [La.out]; omega) ?_
       simp only [Act.put, List.setIfInBounds_toArray, List.set_cons_zero, List.set_cons_succ]
       go_big_quiet_on)
    | (go_big_quiet_want
       refine quiet_load_seg 25 (.tmp 3) (by rfl) (w.heap.size + 1) 0 6 (by rfl) 25 .u64 b b _ (fun w' ⟨i, hi⟩ => by rw [hi]; exact qb9.keep (hf i)) Tryd.underlying25 rfl (by kernel_rfl) (by rw [List.drop_zero, take_all Lb.out]) (by rw [Lb.out]; omega) ?_
       simp only [Act.put, List.setIfInBounds_toArray, List.set_cons_zero, List.set_cons_succ]
       go_big_quiet_on)
    | (go_big_quiet_want
       refine quiet_load_seg 25 (.tmp 6) (by rfl) (w2.heap.size) 0 6 (by rfl) 25 .u64 x x _ (fun w' ⟨i, hi⟩ => by rw [hi]; exact qx9.keep (hf i)) Tryd.underlying25 rfl (by kernel_rfl) (by rw [List.drop_zero, take_all Lx.out]) (by rw [Lx.out]; omega) ?_
       simp only [Act.put, List.setIfInBounds_toArray, List.set_cons_zero, List.set_cons_succ]
       go_big_quiet_on)
    | (go_big_quiet_want
       refine quiet_load_seg 25 (.tmp 7) (by rfl) (w4.heap.size) 0 6 (by rfl) 25 .u64 y y _ (fun w' ⟨i, hi⟩ => by rw [hi]; exact qy9.keep (hf i)) Tryd.underlying25 rfl (by kernel_rfl) (by rw [List.drop_zero, take_all Ly.out]) (by rw [Ly.out]; omega) ?_
       simp only [Act.put, List.setIfInBounds_toArray, List.set_cons_zero, List.set_cons_succ]
       go_big_quiet_on)
    | (go_big_quiet_want
       refine quiet_load_seg 25 (.tmp 8) (by rfl) (w5.heap.size) 0 6 (by rfl) 25 .u64 Z6 Z6 _ (fun w' ⟨i, hi⟩ => by rw [hi]; exact qz9.keep (hf i)) Tryd.underlying25 rfl (by kernel_rfl) (by rw [List.drop_zero, take_all LZ.out]) (by rw [LZ.out]; omega) ?_
       simp only [Act.put, List.setIfInBounds_toArray, List.set_cons_zero, List.set_cons_succ]
       go_big_quiet_on)
    | (go_big_quiet_want
       refine quiet_load_seg 25 (.tmp 10) (by rfl) (w8.heap.size) 0 6 (by rfl) 25 .u64 i i _ (fun w' ⟨i, hi⟩ => by rw [hi]; exact qi9.keep (hf i)) Tryd.underlying25 rfl (by kernel_rfl) (by rw [List.drop_zero, take_all Li.out]) (by rw [Li.out]; omega) ?_
       simp only [Act.put, List.setIfInBounds_toArray, List.set_cons_zero, List.set_cons_succ]
       go_big_quiet_on)
    | (go_big_quiet_want
       refine quiet_build 25 #[(0, .const (.int .u64 1))] (by rfl) (vals .u64 [1, 0, 0, 0, 0, 0]) (by kernel_rfl) ?_
       simp only [Act.put, List.setIfInBounds_toArray, List.set_cons_zero, List.set_cons_succ]
       go_big_quiet_on)
    | go_big_quiet_step (first | fail | (go_at_call 29; with_reducible exact calls_fam hf hback (A11.out _ (HGf.out _)))))
  refine wpQuiet_nil ?_
  intro w10 hq
  have qa10 := qa9.keep hq
  have qb10 := qb9.keep hq
  have qx10 := qx9.keep hq
  have qy10 := qy9.keep hq
  have qz10 := qz9.keep hq
  have qi10 := qi9.keep hq
  have hb10 := hb9.trans (hq.mono hb9.size)
  clear HDf HGf hf hback hq qa9 qb9 qx9 qy9 qz9 qi9 hb9 
  go_wp2
  refine wp_fam_all (by kernel_rfl) (by kernel_rfl) (fun I hI' fw hf hback => ?_)
  have HGf : Keep (∀ j, Glob (fw j)) := ⟨fun j => HG.out _ (hb10.trans ((hf j).mono hb10.size))⟩
  have HDf : Keep (∀ j, GlobD (fw j)) := ⟨fun j => HD.out _ (hb10.trans ((hf j).mono hb10.size))⟩
  repeat (first
    | (go_big_quiet_want
       refine quiet_load_seg 25 (.tmp 2) (by rfl) (w.heap.size) 0 6 (by rfl) 25 .u64 a a _ (fun w' ⟨i, hi⟩ => by rw [hi]; exact qa10.keep (hf i)) Tryd.underlying25 rfl (by kernel_rfl) (by rw [List.drop_zero, take_all La.out]) (by rw [La.out]; omega) ?_
       simp only [Act.put, List.setIfInBounds_toArray, List.set_cons_zero, List.set_cons_succ]
       go_big_quiet_on)
    | (go_big_quiet_want
       refine quiet_load_seg 25 (.tmp 3) (by rfl) (w.heap.size + 1) 0 6 (by rfl) 25 .u64 b b _ (fun w' ⟨i, hi⟩ => by rw [hi]; exact qb10.keep (hf i)) Tryd.underlying25 rfl (by kernel_rfl) (by rw [List.drop_zero, take_all Lb.out]) (by rw [Lb.out]; omega) ?_
       simp only [Act.put, List.setIfInBounds_toArray, List.set_cons_zero, List.set_cons_succ]
       go_big_quiet_on)
    | (go_big_quiet_want
       refine quiet_load_seg 25 (.tmp 6) (by rfl) (w2.heap.size) 0 6 (by rfl) 25 .u64 x x _ (fun w' ⟨i, hi⟩ => by rw [hi]; exact qx10.keep (hf i)) Tryd.underlying25 rfl (by kernel_rfl) (by rw [List.drop_zero, take_all Lx.out]) (by rw [Lx.out]; omega) ?_
       simp only [Act.put, List.setIfInBounds_toArray, List.set_cons_zero, List.set_cons_succ]
       go_big_quiet_on)
    | (go_big_quiet_want
       refine quiet_load_seg 25 (.tmp 7) (by rfl) (w4.heap.size) 0 6 (by rfl) 25 .u64 y y _ (fun w' ⟨i, hi⟩ => by rw [hi]; exact qy10.keep (hf i)) Tryd.underlying25 rfl (by kernel_rfl) (by rw [List.drop_zero, take_all Ly.out]) (by rw [Ly.out]; omega) ?_
       simp only [Act.put, List.setIfInBounds_toArray, List.set_cons_zero, List.set_cons_succ]
       go_big_quiet_on)
    | (go_big_quiet_want
       refine quiet_load_seg 25 (.tmp 8) (by rfl) (w5.heap.size) 0 6 (by rfl) 25 .u64 Z6 Z6 _ (fun w' ⟨i, hi⟩ => by rw [hi]; exact qz10.keep (hf i)) Tryd.underlying25 rfl (by kernel_rfl) (by rw [List.drop_zero, take_all LZ.out]) (by rw [LZ.out]; omega) ?_
       simp only [Act.put, List.setIfInBounds_toArray, List.set_cons_zero, List.set_cons_succ]
       go_big_quiet_on)
    | go_big_quiet_step (first | fail | (go_at_call 29; with_reducible exact calls_fam hf hback (A11.out _ (HGf.out _)))))
  refine wpQuiet_nil ?_
  intro w11 hq
  have qa11 := qa10.keep hq
  have qb11 := qb10.keep hq
  have qx11 := qx10.keep hq
  have qy11 := qy10.keep hq
  have qz11 := qz10.keep hq
  have qi11 := qi10.keep hq
  have hb11 := hb10.trans (hq.mono hb10.size)
  clear HDf HGf hf hback hq qa10 qb10 qx10 qy10 qz10 qi10 hb10 
  go_wp2
  refine wp_fam_all (by kernel_rfl) (by kernel_rfl) (fun I hI' fw hf hback => ?_)
  have HGf : Keep (∀ j, Glob (fw j)) := ⟨fun j => HG.out _ (hb11.trans ((hf j).mono hb11.size))⟩
  have HDf : Keep (∀ j, GlobD (fw j)) := ⟨fun j => HD.out _ (hb11.trans ((hf j).mono hb11.size))⟩
  repeat (first
    | (go_big_quiet_want
       refine quiet_load_seg 25 (.tmp 2) (by rfl) (w.heap.size) 0 6 (by rfl) 25 .u64 a a _ (fun w' ⟨i, hi⟩ => by rw [hi]; exact qa11.keep (hf i)) Tryd.underlying25 rfl (by kernel_rfl) (by rw [List.drop_zero, take_all La.out]) (by rw [La.out]; omega) ?_
       simp only [Act.put, List.setIfInBounds_toArray, List.set_cons_zero, List.set_cons_succ]
       go_big_quiet_on)
    | (go_big_quiet_want
       refine quiet_load_seg 25 (.tmp 3) (by rfl) (w.heap.size + 1) 0 6 (by rfl) 25 .u64 b b _ (fun w' ⟨i, hi⟩ => by rw [hi]; exact qb11.keep (hf i)) Tryd.underlying25 rfl (by kernel_rfl) (by rw [List.drop_zero, take_all Lb.out]) (by rw [Lb.out]; omega) ?_
       simp only [Act.put, List.setIfInBounds_toArray, List.set_cons_zero, List.set_cons_succ]
       go_big_quiet_on)
    | (go_big_quiet_want
       refine quiet_load_seg 25 (.tmp 6) (by rfl) (w2.heap.size) 0 6 (by rfl) 25 .u64 x x _ (fun w' ⟨i, hi⟩ => by rw [hi]; exact qx11.keep (hf i)) Tryd.underlying25 rfl (by kernel_rfl) (by rw [List.drop_zero, take_all Lx.out]) (by rw [Lx.out]; omega) ?_
       simp only [Act.put, List.setIfInBounds_toArray, List.set_cons_zero, List.set_cons_succ]
       go_big_quiet_on)
    | (go_big_quiet_want
       refine quiet_load_seg 25 (.tmp 7) (by rfl) (w4.heap.size) 0 6 (by rfl) 25 .u64 y y _ (fun w' ⟨i, hi⟩ => by rw [hi]; exact qy11.keep (hf i)) Tryd.underlying25 rfl (by kernel_rfl) (by rw [List.drop_zero, take_all Ly.out]) (by rw [Ly.out]; omega) ?_
       simp only [Act.put, List.setIfInBounds_toArray, List.set_cons_zero, List.set_cons_succ]
       go_big_quiet_on)
    | (go_big_quiet_want
       refine quiet_load_seg 25 (.tmp 8) (by rfl) (w5.heap.size) 0 6 (by rfl) 25 .u64 Z6 Z6 _ (fun w' ⟨i, hi⟩ => by rw [hi]; exact qz11.keep (hf i)) Tryd.underlying25 rfl (by kernel_rfl) (by rw [List.drop_zero, take_all LZ.out]) (by rw [LZ.out]; omega) ?_
       simp only [Act.put, List.setIfInBounds_toArray, List.set_cons_zero, List.set_cons_succ]
       go_big_quiet_on)
    | (go_big_quiet_want
       refine quiet_load_seg 25 (.tmp 10) (by rfl) (w8.heap.size) 0 6 (by rfl) 25 .u64 i i _ (fun w' ⟨i, hi⟩ => by rw [hi]; exact qi11.keep (hf i)) Tryd.underlying25 rfl (by kernel_rfl) (by rw [List.drop_zero, take_all Li.out]) (by rw [Li.out]; omega) ?_
       simp only [Act.put, List.setIfInBounds_toArray, List.set_cons_zero, List.set_cons_succ]
       go_big_quiet_on)
    | go_big_quiet_step (first | fail | (go_at_call 31; with_reducible exact calls_fam hf hback (A14.out _ (HDf.out _)))))
  refine wpQuiet_nil ?_
  intro w12 hq
  have hb12 := hb11.trans (hq.mono hb11.size)
  clear HDf HGf hf hback hq  hb11 qa11 qb11 qx11 qy11 qz11 qi11
  go_wp2
  go_ret
  exact ⟨rfl, hb12⟩

theorem fpUndoes_w (a : List Int) (hla : a.length = 6) (hwa : Words a) (b : List Int) (hlb : b.length = 6) (hwb : Words b) (w : World) (hG : GlobD w) : Calls Tryd.prog 9 #[.agg (vals .u64 a), .agg (vals .u64 b)] w fun e w' => e = .returned (.bool true) ∧ Below w.heap.size w w' := by
  by_cases hx : num a % PP = 0 <;> by_cases hy : num b % PP = 0
  · exact fpUndoes_yy a hla hwa b hlb hwb hx hy w hG
  · exact fpUndoes_yn a hla hwa b hlb hwb hx hy w hG
  · exact fpUndoes_y a hla hwa b hlb hwb hx hy w hG
  · exact fpUndoes_nn a hla hwa b hlb hwb hx hy w hG
end Go.Proofs.YtpkfknmpegieaaaDoor.Fp
