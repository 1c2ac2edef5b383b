/-
  Own text. The walk of layer 4's statement that a number is read from its bytes.
-/
import Derived.Test.YtpkfknmpegieaaaDoorFpLaws3
import Derived.Laws.BytesArg
namespace Go.Proofs.YtpkfknmpegieaaaDoor.Fp
set_option linter.unusedVariables false
set_option linter.unusedSimpArgs false
open Go Go.RowKit Go.Proofs.YtpkfknmpegieaaaDoor.Reg Go.Proofs.YtpkfknmpegieaaaDoor.Base Go.Proofs.YtpkfknmpegieaaaDoor.Limb Go.Proofs.YtpkfknmpegieaaaDoor.Bits

theorem emod_mul_ (v : Int) {p q : Int} (hp : 0 < p) (hq : 0 < q) : v % (p * q) = v % p + p * (v / p % q) := by
  have h1 := Int.mul_ediv_add_emod v p
  have h2 := Int.mul_ediv_add_emod (v / p) q
  have b1 := Int.emod_nonneg v (Int.ne_of_gt hp)
  have b2 := Int.emod_lt_of_pos v hp
  have b3 := Int.emod_nonneg (v / p) (Int.ne_of_gt hq)
  have b4 := Int.emod_lt_of_pos (v / p) hq
  have c1 : 0 ≤ p * (v / p % q) := Int.mul_nonneg (Int.le_of_lt hp) b3
  have c2 : p * (v / p % q) ≤ p * (q - 1) := Int.mul_le_mul_of_nonneg_left (by omega) (Int.le_of_lt hp)
  rw [Int.mul_sub, Int.mul_one] at c2
  refine (split_of (q := v / p / q) (by omega) (by omega) ?_).1
  grind
theorem bn_oct_ (a : List Int) (N : Nat) : ∀ k, k ≤ N → bn (octL a N) k = num a / tp (8 * (N - k)) % tp (8 * k)
  | 0, _ => by rw [Nat.mul_zero, tp_zero, Int.emod_one]; rfl
  | k + 1, h => by
    have e8 : tp 8 = 256 := rfl
    rw [bn_succ, bn_oct_ a N k (by omega), octL_nth a (by omega), show N - k = (N - (k + 1)) + 1 by omega, show N - 1 - k = N - (k + 1) by omega, Nat.mul_succ, tp_add, e8, ← div_div (tp_pos _)]
    generalize num a / tp (8 * (N - (k + 1))) = u
    rw [Nat.mul_succ, tp_add, e8, Int.mul_comm (tp (8 * k)) 256, emod_mul_ u (by omega) (tp_pos _)]
    omega
theorem bnum_oct_ {a : List Int} (hw : Words a) {n : Nat} (hn : a.length = n) : bnum (octL a (8 * n)) = num a := by
  have hb := num_bounds hw
  rw [bnum, octL_len, bn_oct_ a (8 * n) (8 * n) (Nat.le_refl _), Nat.sub_self, Nat.mul_zero, tp_zero, Int.ediv_one, show 8 * (8 * n) = 64 * n by omega, tp_wp, ← hn]
  exact Int.emod_eq_of_lt hb.1 hb.2
theorem bn_inj {b b' : List Int} (h : Bytes b) (h' : Bytes b') : ∀ k, bn b k = bn b' k → ∀ i, i < k → nth b i = nth b' i
  | 0, _, i, hi => by omega
  | k + 1, e, i, hi => by
    rw [bn_succ, bn_succ] at e
    have h1 := h k
    have h2 := h' k
    rcases Nat.lt_or_ge i k with hk | hk
    · exact bn_inj h h' k (by omega) i hk
    · obtain rfl : i = k := by omega
      omega
theorem bnum_inj {b b' : List Int} (h : Bytes b) (h' : Bytes b') (hl : b.length = b'.length) (e : bnum b = bnum b') : b = b' :=
  ext_nth hl fun i hi => bn_inj h h' b.length (by rw [bnum, bnum, ← hl] at e; exact e) i hi
theorem bnum_fe (v : Int) : bnum (octL (fe v) 48) = v % PP := by
  have h := bnum_oct_ (fe_words v) (fe_len v)
  rw [num_fe] at h
  exact h
theorem oct_fe {b : List Int} (h : Bytes b) (hl : b.length = 48) (hp : bnum b < PP) : octL (fe (bnum b)) 48 = b := by
  refine bnum_inj (octL_bytes _ _) h (by rw [octL_len, hl]) ?_
  rw [bnum_fe]
  have h0 : 0 ≤ bnum b := (bn_bounds h b.length).1
  exact Int.emod_eq_of_lt h0 hp
def Z48 : List Int := List.replicate 48 0
set_option maxRecDepth 100000 in
set_option maxHeartbeats 4000000 in
theorem fpBack_len (a : List Int) (hla : a.length = 6) (hwa : Words a) (A : Option Addr) (n c : Nat) (b : List Int) (w : World) (hG : GlobD w) (hr : Rd w w.heap.size A n .u8 b) (hby : Bytes b) (hn : n ≠ 48) : Calls Tryd.prog 12 #[.agg (vals .u64 a), .slice A n c] w fun e w' => e = .returned (.bool true) ∧ Below w.heap.size w w' := by
  obtain ⟨x, hx⟩ : ∃ o, fe (num a) = o := ⟨_, rfl⟩
  obtain ⟨s, hs⟩ : ∃ o, octL (fe (num a)) 48 = o := ⟨_, rfl⟩
  have Lx : Keep (x.length = 6) := ⟨by rw [← hx]; exact fe_len _⟩
  have Ls : Keep (s.length = 48) := ⟨by rw [← hs]; exact octL_len _ _⟩
  have Ex := eq6 x Lx.out
  have hgd2 := gd48
  have A1 : Keep _ := ⟨fun w (hG : Glob w) => fpBytes_c a hla hwa w hG⟩
  have A2 : Keep _ := ⟨fun w (hG : Glob w) => fpReduce_c a hla hwa w hG⟩
  rw [hs] at A1
  rw [hx] at A2
  have P0 : Keep (∀ w' g, Has w' g 38 (vals .u8 s) → Glob w' → Calls Tryd.prog 37 #[.slice (some ⟨g, 0, none⟩) 48 48] w' fun e w'' => e = .returned (.tuple #[.agg (vals .u64 x), .int .i64 0]) ∧ Below w'.heap.size w' w'') := ⟨fun w' g h hG => by
    have h1 := fpFromBytes_c (some ⟨g, 0, none⟩) 48 s w'.heap.size w' hG (Rd.of_has h h.lt (by rw [List.drop_zero, take_all Ls.out]) (by rw [Ls.out]; omega)) (by rw [← hs]; exact octL_bytes _ _) (Nat.le_refl _)
    have h2 : bnum s = num a % PP := by rw [← hs]; exact bnum_fe _
    rw [if_neg (by rw [h2]; have := (fe_mod (num a)).2; omega), h2, show fe (num a % PP) = x by rw [← hx]; exact fe_congr (Int.emod_emod _ _)] at h1
    exact h1⟩
  have Ly : Keep (Z6.length = 6) := ⟨rfl⟩
  have EZ := eq6 Z6 rfl
  have P1 : Keep (∀ w', Rd w' w'.heap.size A n .u8 b → Glob w' → Calls Tryd.prog 37 #[.slice A n c] w' fun e w'' => e = .returned (.tuple #[.agg (vals .u64 Z6), .int .i64 40]) ∧ Below w'.heap.size w' w'') := ⟨fun w' _ hG => fpFromBytes_no A n c w' hG hn⟩
  have hne : ((n : Int) != 48) = true := by rw [bne_iff_ne]; omega
  have hne2 : ¬ (n : Int) = 48 := by omega
  have hgd := gd6
  have HG : Keep (∀ x : World, Below w.heap.size w x → Glob x) := ⟨fun x h => hG.toGlob.keep h⟩
  have HD : Keep (∀ x : World, Below w.heap.size w x → GlobD x) := ⟨fun x h => hG.keep h⟩
  clear hG
  have qa0 : Has (w.alloc (.cells (vals .u64 a) 25)) (w.heap.size) 25 (vals .u64 a) := (Has.new _ _ _)
  have hb0 : Below w.heap.size w (w.alloc (.cells (vals .u64 a) 25)) := ((Below.refl _ _).alloc (by simp <;> omega) _)
  have La : Keep _ := ⟨hla⟩
  have Wa : Keep _ := ⟨hwa⟩
  clear hx hs hla hwa hby hn
  go_enter Tryd.func12, Tryd.ntmps12
  go_wp2_with (first
    | (refine store_abs2 (by rfl) 25 (.tmp 7) (.tmp 18) (by rfl) (by rfl) w4.heap.size (vals .u64 x) (by rfl) (by rfl) 25 (vals .u64 Z6) (Has.new' _ rfl _ _) (by rw [vals_size, Lx.out]; kernel_rfl) (by first | rfl | (rw [vals_size, vals_size, Lx.out]; rfl)) vals_one ?_
       intro w5 qx5 hkeep hbg
       have hbe := ((Below.refl w4.heap.size w4).alloc (Nat.le_refl _) (.cells (vals .u64 Z6) 25)).trans hbg
       have qa5 := qa4.keep hbe
       have qs5 := qs4.keep hbe
       have hb5 := hb4.trans (hbe.mono hb4.size)
       clear hkeep hbg hbe hb4 qa4 qs4)
    | (go_at_call 37
       refine (P0.out _ _ qs3 (HG.out _ hb3)).mono ?_
       rintro e w4 ⟨rfl, hq⟩
       have qa4 := qa3.keep hq
       have qs4 := qs3.keep hq
       have hb4 := hb3.trans (hq.mono hb3.size)
       clear hq hb3 qa3 qs3)
    | (refine store_abs2 (by rfl) 38 (.tmp 6) (.tmp 14) (by rfl) (by rfl) w2.heap.size (vals .u8 s) (by rfl) (by rfl) 38 (vals .u8 Z48) (Has.new' _ rfl _ _) (by rw [vals_size, Ls.out]; kernel_rfl) (by rw [vals_size, vals_size, Ls.out]; rfl) vals_one ?_
       intro w3 qs3 hkeep hbg
       have hbe := ((Below.refl w2.heap.size w2).alloc (Nat.le_refl _) (.cells (vals .u8 Z48) 38)).trans hbg
       have qa3 := qa2.keep hbe
       have hb3 := hb2.trans (hbe.mono hb2.size)
       clear hkeep hbg hbe hb2 qa2)
    | (go_at_call 39
       refine (A1.out _ (HG.out _ hb1)).mono ?_
       rintro e w2 ⟨rfl, hq⟩
       have qa2 := qa1.keep hq
       have hb2 := hb1.trans (hq.mono hb1.size)
       clear hq hb1 qa1)
    | (refine wpList_load_row rfl 25 (.tmp 2) rfl (w.heap.size) rfl _ _ _ _ qa1.eq Tryd.underlying25 rfl (by rw [vals_size, La.out]; kernel_rfl) ?_)
    | (go_at_call 18
       refine (awake_c _ (HD.out _ hb0)).mono ?_
       rintro e w1 ⟨rfl, hq⟩
       have qa1 := qa0.keep hq
       have hb1 := hb0.trans (hq.mono hb0.size)
       clear hq hb0 qa0))
  refine wp_fam_all (by kernel_rfl) (by kernel_rfl) (fun I hI' fw hf hback => ?_)
  have HGf : Keep (∀ j, Glob (fw j)) := ⟨fun j => HG.out _ (hb5.trans ((hf j).mono hb5.size))⟩
  have HDf : Keep (∀ j, GlobD (fw j)) := ⟨fun j => HD.out _ (hb5.trans ((hf j).mono hb5.size))⟩
  repeat (first
    | (go_big_quiet_want
       refine quiet_load_seg 25 (.tmp 2) (by rfl) (w.heap.size) 0 6 (by rfl) 25 .u64 a a _ (fun w' ⟨i, hi⟩ => by rw [hi]; exact qa5.keep (hf i)) Tryd.underlying25 rfl (by kernel_rfl) (by rw [List.drop_zero, take_all La.out]) (by rw [La.out]; omega) ?_
       simp only [Act.put, List.setIfInBounds_toArray, List.set_cons_zero, List.set_cons_succ]
       go_big_quiet_on)
    | (go_big_quiet_want
       refine quiet_load_seg 25 (.tmp 7) (by rfl) (w4.heap.size) 0 6 (by rfl) 25 .u64 x x _ (fun w' ⟨i, hi⟩ => by rw [hi]; exact qx5.keep (hf i)) Tryd.underlying25 rfl (by kernel_rfl) (by rw [List.drop_zero, take_all Lx.out]) (by rw [Lx.out]; omega) ?_
       simp only [Act.put, List.setIfInBounds_toArray, List.set_cons_zero, List.set_cons_succ]
       go_big_quiet_on)
    | go_big_quiet_step (first | fail | (go_at_call 21; with_reducible exact calls_fam hf hback (A2.out _ (HGf.out _)))))
  refine wpQuiet_nil ?_
  intro w6 hq
  have hb6 := hb5.trans (hq.mono hb5.size)
  clear HDf HGf hf hback hq  hb5 qa5 qx5 qs5
  go_wp2_with (first
    | (refine wpList_free (by rfl) ?_; refine wpList_buildTo (by rfl) 25 #[] (by rfl) (some 38) (by rfl) (vals .u64 Z6) (by kernel_rfl) ?_)
    | (refine wpList_free (by rfl) ?_; refine wpList_load_row rfl 25 (.tmp 9) rfl (w7.heap.size) rfl _ _ _ _ qy8.eq Tryd.underlying25 rfl (by rw [vals_size, Ly.out]; kernel_rfl) ?_)
    | (refine store_abs2 (by rfl) 25 (.tmp 9) (.tmp 31) (by rfl) (by rfl) w7.heap.size (vals .u64 Z6) (by rfl) (by rfl) 25 (vals .u64 Z6) (Has.new' _ rfl _ _) (by rw [vals_size, Ly.out]; kernel_rfl) (by first | rfl | (rw [vals_size, vals_size, Ly.out]; rfl)) vals_one ?_
       intro w8 qy8 hkeep hbg
       have hbe := ((Below.refl w7.heap.size w7).alloc (Nat.le_refl _) (.cells (vals .u64 Z6) 25)).trans hbg
       have hb8 := hb7.trans (hbe.mono hb7.size)
       clear hkeep hbg hbe hb7 )
    | (go_at_call 37
       refine (P1.out _ (rd_here hr hb6) (HG.out _ hb6)).mono ?_
       rintro e w7 ⟨rfl, hq⟩
       have hb7 := hb6.trans (hq.mono hb6.size)
       clear hq hb6 ))
  go_ret
  exact ⟨rfl, hb8⟩

set_option maxRecDepth 100000 in
set_option maxHeartbeats 4000000 in
theorem fpBack_range (a : List Int) (hla : a.length = 6) (hwa : Words a) (A : Option Addr) (n c : Nat) (b : List Int) (w : World) (hG : GlobD w) (hr : Rd w w.heap.size A n .u8 b) (hby : Bytes b) (hn : n = 48) (hp : PP ≤ bnum b) : Calls Tryd.prog 12 #[.agg (vals .u64 a), .slice A n c] w fun e w' => e = .returned (.bool true) ∧ Below w.heap.size w w' := by
  obtain ⟨x, hx⟩ : ∃ o, fe (num a) = o := ⟨_, rfl⟩
  obtain ⟨s, hs⟩ : ∃ o, octL (fe (num a)) 48 = o := ⟨_, rfl⟩
  have Lx : Keep (x.length = 6) := ⟨by rw [← hx]; exact fe_len _⟩
  have Ls : Keep (s.length = 48) := ⟨by rw [← hs]; exact octL_len _ _⟩
  have Ex := eq6 x Lx.out
  have hgd2 := gd48
  have A1 : Keep _ := ⟨fun w (hG : Glob w) => fpBytes_c a hla hwa w hG⟩
  have A2 : Keep _ := ⟨fun w (hG : Glob w) => fpReduce_c a hla hwa w hG⟩
  rw [hs] at A1
  rw [hx] at A2
  have P0 : Keep (∀ w' g, Has w' g 38 (vals .u8 s) → Glob w' → Calls Tryd.prog 37 #[.slice (some ⟨g, 0, none⟩) 48 48] w' fun e w'' => e = .returned (.tuple #[.agg (vals .u64 x), .int .i64 0]) ∧ Below w'.heap.size w' w'') := ⟨fun w' g h hG => by
    have h1 := fpFromBytes_c (some ⟨g, 0, none⟩) 48 s w'.heap.size w' hG (Rd.of_has h h.lt (by rw [List.drop_zero, take_all Ls.out]) (by rw [Ls.out]; omega)) (by rw [← hs]; exact octL_bytes _ _) (Nat.le_refl _)
    have h2 : bnum s = num a % PP := by rw [← hs]; exact bnum_fe _
    rw [if_neg (by rw [h2]; have := (fe_mod (num a)).2; omega), h2, show fe (num a % PP) = x by rw [← hx]; exact fe_congr (Int.emod_emod _ _)] at h1
    exact h1⟩
  have Ly : Keep (Z6.length = 6) := ⟨rfl⟩
  have EZ := eq6 Z6 rfl
  subst hn
  have P1 : Keep (∀ w', Rd w' w'.heap.size A 48 .u8 b → Glob w' → Calls Tryd.prog 37 #[.slice A 48 c] w' fun e w'' => e = .returned (.tuple #[.agg (vals .u64 Z6), .int .i64 41]) ∧ Below w'.heap.size w' w'') := ⟨fun w' h hG => by
    have h1 := fpFromBytes_c A c b _ w' hG h hby (Nat.le_refl _)
    rw [if_pos hp] at h1
    exact h1⟩
  have hgd := gd6
  have HG : Keep (∀ x : World, Below w.heap.size w x → Glob x) := ⟨fun x h => hG.toGlob.keep h⟩
  have HD : Keep (∀ x : World, Below w.heap.size w x → GlobD x) := ⟨fun x h => hG.keep h⟩
  clear hG
  have qa0 : Has (w.alloc (.cells (vals .u64 a) 25)) (w.heap.size) 25 (vals .u64 a) := (Has.new _ _ _)
  have hb0 : Below w.heap.size w (w.alloc (.cells (vals .u64 a) 25)) := ((Below.refl _ _).alloc (by simp <;> omega) _)
  have La : Keep _ := ⟨hla⟩
  have Wa : Keep _ := ⟨hwa⟩
  clear hx hs hla hwa hby hp
  go_enter Tryd.func12, Tryd.ntmps12
  go_wp2_with (first
    | (refine store_abs2 (by rfl) 25 (.tmp 7) (.tmp 18) (by rfl) (by rfl) w4.heap.size (vals .u64 x) (by rfl) (by rfl) 25 (vals .u64 Z6) (Has.new' _ rfl _ _) (by rw [vals_size, Lx.out]; kernel_rfl) (by first | rfl | (rw [vals_size, vals_size, Lx.out]; rfl)) vals_one ?_
       intro w5 qx5 hkeep hbg
       have hbe := ((Below.refl w4.heap.size w4).alloc (Nat.le_refl _) (.cells (vals .u64 Z6) 25)).trans hbg
       have qa5 := qa4.keep hbe
       have qs5 := qs4.keep hbe
       have hb5 := hb4.trans (hbe.mono hb4.size)
       clear hkeep hbg hbe hb4 qa4 qs4)
    | (go_at_call 37
       refine (P0.out _ _ qs3 (HG.out _ hb3)).mono ?_
       rintro e w4 ⟨rfl, hq⟩
       have qa4 := qa3.keep hq
       have qs4 := qs3.keep hq
       have hb4 := hb3.trans (hq.mono hb3.size)
       clear hq hb3 qa3 qs3)
    | (refine store_abs2 (by rfl) 38 (.tmp 6) (.tmp 14) (by rfl) (by rfl) w2.heap.size (vals .u8 s) (by rfl) (by rfl) 38 (vals .u8 Z48) (Has.new' _ rfl _ _) (by rw [vals_size, Ls.out]; kernel_rfl) (by rw [vals_size, vals_size, Ls.out]; rfl) vals_one ?_
       intro w3 qs3 hkeep hbg
       have hbe := ((Below.refl w2.heap.size w2).alloc (Nat.le_refl _) (.cells (vals .u8 Z48) 38)).trans hbg
       have qa3 := qa2.keep hbe
       have hb3 := hb2.trans (hbe.mono hb2.size)
       clear hkeep hbg hbe hb2 qa2)
    | (go_at_call 39
       refine (A1.out _ (HG.out _ hb1)).mono ?_
       rintro e w2 ⟨rfl, hq⟩
       have qa2 := qa1.keep hq
       have hb2 := hb1.trans (hq.mono hb1.size)
       clear hq hb1 qa1)
    | (refine wpList_load_row rfl 25 (.tmp 2) rfl (w.heap.size) rfl _ _ _ _ qa1.eq Tryd.underlying25 rfl (by rw [vals_size, La.out]; kernel_rfl) ?_)
    | (go_at_call 18
       refine (awake_c _ (HD.out _ hb0)).mono ?_
       rintro e w1 ⟨rfl, hq⟩
       have qa1 := qa0.keep hq
       have hb1 := hb0.trans (hq.mono hb0.size)
       clear hq hb0 qa0))
  refine wp_fam_all (by kernel_rfl) (by kernel_rfl) (fun I hI' fw hf hback => ?_)
  have HGf : Keep (∀ j, Glob (fw j)) := ⟨fun j => HG.out _ (hb5.trans ((hf j).mono hb5.size))⟩
  have HDf : Keep (∀ j, GlobD (fw j)) := ⟨fun j => HD.out _ (hb5.trans ((hf j).mono hb5.size))⟩
  repeat (first
    | (go_big_quiet_want
       refine quiet_load_seg 25 (.tmp 2) (by rfl) (w.heap.size) 0 6 (by rfl) 25 .u64 a a _ (fun w' ⟨i, hi⟩ => by rw [hi]; exact qa5.keep (hf i)) Tryd.underlying25 rfl (by kernel_rfl) (by rw [List.drop_zero, take_all La.out]) (by rw [La.out]; omega) ?_
       simp only [Act.put, List.setIfInBounds_toArray, List.set_cons_zero, List.set_cons_succ]
       go_big_quiet_on)
    | (go_big_quiet_want
       refine quiet_load_seg 25 (.tmp 7) (by rfl) (w4.heap.size) 0 6 (by rfl) 25 .u64 x x _ (fun w' ⟨i, hi⟩ => by rw [hi]; exact qx5.keep (hf i)) Tryd.underlying25 rfl (by kernel_rfl) (by rw [List.drop_zero, take_all Lx.out]) (by rw [Lx.out]; omega) ?_
       simp only [Act.put, List.setIfInBounds_toArray, List.set_cons_zero, List.set_cons_succ]
       go_big_quiet_on)
    | go_big_quiet_step (first | fail | (go_at_call 21; with_reducible exact calls_fam hf hback (A2.out _ (HGf.out _)))))
  refine wpQuiet_nil ?_
  intro w6 hq
  have hb6 := hb5.trans (hq.mono hb5.size)
  clear HDf HGf hf hback hq  hb5 qa5 qx5 qs5
  go_wp2_with (first
    | (refine wpList_free (by rfl) ?_; refine wpList_buildTo (by rfl) 25 #[] (by rfl) (some 38) (by rfl) (vals .u64 Z6) (by kernel_rfl) ?_)
    | (refine wpList_free (by rfl) ?_; refine wpList_load_row rfl 25 (.tmp 9) rfl (w7.heap.size) rfl _ _ _ _ qy8.eq Tryd.underlying25 rfl (by rw [vals_size, Ly.out]; kernel_rfl) ?_)
    | (refine store_abs2 (by rfl) 25 (.tmp 9) (.tmp 31) (by rfl) (by rfl) w7.heap.size (vals .u64 Z6) (by rfl) (by rfl) 25 (vals .u64 Z6) (Has.new' _ rfl _ _) (by rw [vals_size, Ly.out]; kernel_rfl) (by first | rfl | (rw [vals_size, vals_size, Ly.out]; rfl)) vals_one ?_
       intro w8 qy8 hkeep hbg
       have hbe := ((Below.refl w7.heap.size w7).alloc (Nat.le_refl _) (.cells (vals .u64 Z6) 25)).trans hbg
       have hb8 := hb7.trans (hbe.mono hb7.size)
       clear hkeep hbg hbe hb7 )
    | (go_at_call 37
       refine (P1.out _ (rd_here hr hb6) (HG.out _ hb6)).mono ?_
       rintro e w7 ⟨rfl, hq⟩
       have hb7 := hb6.trans (hq.mono hb6.size)
       clear hq hb6 ))
  go_ret
  exact ⟨rfl, hb8⟩

set_option maxRecDepth 100000 in
set_option maxHeartbeats 4000000 in
theorem fpBack_ok (a : List Int) (hla : a.length = 6) (hwa : Words a) (A : Option Addr) (n c : Nat) (b : List Int) (w : World) (hG : GlobD w) (hr : Rd w w.heap.size A n .u8 b) (hby : Bytes b) (hn : n = 48) (hp : ¬ PP ≤ bnum b) : Calls Tryd.prog 12 #[.agg (vals .u64 a), .slice A n c] w fun e w' => e = .returned (.bool true) ∧ Below w.heap.size w w' := by
  obtain ⟨x, hx⟩ : ∃ o, fe (num a) = o := ⟨_, rfl⟩
  obtain ⟨s, hs⟩ : ∃ o, octL (fe (num a)) 48 = o := ⟨_, rfl⟩
  have Lx : Keep (x.length = 6) := ⟨by rw [← hx]; exact fe_len _⟩
  have Ls : Keep (s.length = 48) := ⟨by rw [← hs]; exact octL_len _ _⟩
  have Ex := eq6 x Lx.out
  have hgd2 := gd48
  have A1 : Keep _ := ⟨fun w (hG : Glob w) => fpBytes_c a hla hwa w hG⟩
  have A2 : Keep _ := ⟨fun w (hG : Glob w) => fpReduce_c a hla hwa w hG⟩
  rw [hs] at A1
  rw [hx] at A2
  have P0 : Keep (∀ w' g, Has w' g 38 (vals .u8 s) → Glob w' → Calls Tryd.prog 37 #[.slice (some ⟨g, 0, none⟩) 48 48] w' fun e w'' => e = .returned (.tuple #[.agg (vals .u64 x), .int .i64 0]) ∧ Below w'.heap.size w' w'') := ⟨fun w' g h hG => by
    have h1 := fpFromBytes_c (some ⟨g, 0, none⟩) 48 s w'.heap.size w' hG (Rd.of_has h h.lt (by rw [List.drop_zero, take_all Ls.out]) (by rw [Ls.out]; omega)) (by rw [← hs]; exact octL_bytes _ _) (Nat.le_refl _)
    have h2 : bnum s = num a % PP := by rw [← hs]; exact bnum_fe _
    rw [if_neg (by rw [h2]; have := (fe_mod (num a)).2; omega), h2, show fe (num a % PP) = x by rw [← hx]; exact fe_congr (Int.emod_emod _ _)] at h1
    exact h1⟩
  subst hn
  obtain ⟨y, hy⟩ : ∃ o, fe (bnum b) = o := ⟨_, rfl⟩
  have Ly : Keep (y.length = 6) := ⟨by rw [← hy]; exact fe_len _⟩
  have P1 : Keep (∀ w', Rd w' w'.heap.size A 48 .u8 b → Glob w' → Calls Tryd.prog 37 #[.slice A 48 c] w' fun e w'' => e = .returned (.tuple #[.agg (vals .u64 y), .int .i64 0]) ∧ Below w'.heap.size w' w'') := ⟨fun w' h hG => by
    have h1 := fpFromBytes_c A c b _ w' hG h hby (Nat.le_refl _)
    rw [if_neg hp, hy] at h1
    exact h1⟩
  have A3 : Keep (∀ w : World, Glob w → Calls Tryd.prog 39 #[.agg (vals .u64 y)] w fun e w' => e = .returned (.agg (vals .u8 b)) ∧ Below w.heap.size w w') := ⟨fun w hG => by
    have h1 := fpBytes_c y (by rw [← hy]; exact fe_len _) (by rw [← hy]; exact fe_words _) w hG
    rw [← hy, fe_num, oct_fe hby hr.len (by omega)] at h1
    rw [← hy]
    exact h1⟩
  have Lb : Keep (b.length = 48) := ⟨hr.len⟩
  have hgd := gd6
  have HG : Keep (∀ x : World, Below w.heap.size w x → Glob x) := ⟨fun x h => hG.toGlob.keep h⟩
  have HD : Keep (∀ x : World, Below w.heap.size w x → GlobD x) := ⟨fun x h => hG.keep h⟩
  clear hG
  have qa0 : Has (w.alloc (.cells (vals .u64 a) 25)) (w.heap.size) 25 (vals .u64 a) := (Has.new _ _ _)
  have hb0 : Below w.heap.size w (w.alloc (.cells (vals .u64 a) 25)) := ((Below.refl _ _).alloc (by simp <;> omega) _)
  have La : Keep _ := ⟨hla⟩
  have Wa : Keep _ := ⟨hwa⟩
  clear hx hs hla hwa hby hy hp
  go_enter Tryd.func12, Tryd.ntmps12
  go_wp2_with (first
    | (refine store_abs2 (by rfl) 25 (.tmp 7) (.tmp 18) (by rfl) (by rfl) w4.heap.size (vals .u64 x) (by rfl) (by rfl) 25 (vals .u64 Z6) (Has.new' _ rfl _ _) (by rw [vals_size, Lx.out]; kernel_rfl) (by first | rfl | (rw [vals_size, vals_size, Lx.out]; rfl)) vals_one ?_
       intro w5 qx5 hkeep hbg
       have hbe := ((Below.refl w4.heap.size w4).alloc (Nat.le_refl _) (.cells (vals .u64 Z6) 25)).trans hbg
       have qa5 := qa4.keep hbe
       have qs5 := qs4.keep hbe
       have hb5 := hb4.trans (hbe.mono hb4.size)
       clear hkeep hbg hbe hb4 qa4 qs4)
    | (go_at_call 37
       refine (P0.out _ _ qs3 (HG.out _ hb3)).mono ?_
       rintro e w4 ⟨rfl, hq⟩
       have qa4 := qa3.keep hq
       have qs4 := qs3.keep hq
       have hb4 := hb3.trans (hq.mono hb3.size)
       clear hq hb3 qa3 qs3)
    | (refine store_abs2 (by rfl) 38 (.tmp 6) (.tmp 14) (by rfl) (by rfl) w2.heap.size (vals .u8 s) (by rfl) (by rfl) 38 (vals .u8 Z48) (Has.new' _ rfl _ _) (by rw [vals_size, Ls.out]; kernel_rfl) (by rw [vals_size, vals_size, Ls.out]; rfl) vals_one ?_
       intro w3 qs3 hkeep hbg
       have hbe := ((Below.refl w2.heap.size w2).alloc (Nat.le_refl _) (.cells (vals .u8 Z48) 38)).trans hbg
       have qa3 := qa2.keep hbe
       have hb3 := hb2.trans (hbe.mono hb2.size)
       clear hkeep hbg hbe hb2 qa2)
    | (go_at_call 39
       refine (A1.out _ (HG.out _ hb1)).mono ?_
       rintro e w2 ⟨rfl, hq⟩
       have qa2 := qa1.keep hq
       have hb2 := hb1.trans (hq.mono hb1.size)
       clear hq hb1 qa1)
    | (refine wpList_load_row rfl 25 (.tmp 2) rfl (w.heap.size) rfl _ _ _ _ qa1.eq Tryd.underlying25 rfl (by rw [vals_size, La.out]; kernel_rfl) ?_)
    | (go_at_call 18
       refine (awake_c _ (HD.out _ hb0)).mono ?_
       rintro e w1 ⟨rfl, hq⟩
       have qa1 := qa0.keep hq
       have hb1 := hb0.trans (hq.mono hb0.size)
       clear hq hb0 qa0))
  refine wp_fam_all (by kernel_rfl) (by kernel_rfl) (fun I hI' fw hf hback => ?_)
  have HGf : Keep (∀ j, Glob (fw j)) := ⟨fun j => HG.out _ (hb5.trans ((hf j).mono hb5.size))⟩
  have HDf : Keep (∀ j, GlobD (fw j)) := ⟨fun j => HD.out _ (hb5.trans ((hf j).mono hb5.size))⟩
  repeat (first
    | (go_big_quiet_want
       refine quiet_load_seg 25 (.tmp 2) (by rfl) (w.heap.size) 0 6 (by rfl) 25 .u64 a a _ (fun w' ⟨i, hi⟩ => by rw [hi]; exact qa5.keep (hf i)) Tryd.underlying25 rfl (by kernel_rfl) (by rw [List.drop_zero, take_all La.out]) (by rw [La.out]; omega) ?_
       simp only [Act.put, List.setIfInBounds_toArray, List.set_cons_zero, List.set_cons_succ]
       go_big_quiet_on)
    | (go_big_quiet_want
       refine quiet_load_seg 25 (.tmp 7) (by rfl) (w4.heap.size) 0 6 (by rfl) 25 .u64 x x _ (fun w' ⟨i, hi⟩ => by rw [hi]; exact qx5.keep (hf i)) Tryd.underlying25 rfl (by kernel_rfl) (by rw [List.drop_zero, take_all Lx.out]) (by rw [Lx.out]; omega) ?_
       simp only [Act.put, List.setIfInBounds_toArray, List.set_cons_zero, List.set_cons_succ]
       go_big_quiet_on)
    | go_big_quiet_step (first | fail | (go_at_call 21; with_reducible exact calls_fam hf hback (A2.out _ (HGf.out _)))))
  refine wpQuiet_nil ?_
  intro w6 hq
  have hb6 := hb5.trans (hq.mono hb5.size)
  clear HDf HGf hf hback hq  hb5 qa5 qx5 qs5
  go_wp2_with (first
    | (refine store_abs2 (by rfl) 38 (.tmp 11) (.tmp 50) (by rfl) (by rfl) w9.heap.size (vals .u8 b) (by rfl) (by rfl) 38 (vals .u8 Z48) (Has.new' _ rfl _ _) (by rw [vals_size, Lb.out]; kernel_rfl) (by rw [vals_size, vals_size, Lb.out]; rfl) vals_one ?_
       intro w10 qt10 hkeep hbg
       have hbe := ((Below.refl w9.heap.size w9).alloc (Nat.le_refl _) (.cells (vals .u8 Z48) 38)).trans hbg
       have hb10 := hb9.trans (hbe.mono hb9.size)
       clear hkeep hbg hbe hb9 )
    | (go_at_call 39
       refine (A3.out _ (HG.out _ hb8)).mono ?_
       rintro e w9 ⟨rfl, hq⟩
       have hb9 := hb8.trans (hq.mono hb8.size)
       clear hq hb8 )
    | (refine wpList_load_row rfl 25 (.tmp 9) rfl (w7.heap.size) rfl _ _ _ _ qy8.eq Tryd.underlying25 rfl (by rw [vals_size, Ly.out]; kernel_rfl) ?_)
    | (refine store_abs2 (by rfl) 25 (.tmp 9) (.tmp 31) (by rfl) (by rfl) w7.heap.size (vals .u64 y) (by rfl) (by rfl) 25 (vals .u64 Z6) (Has.new' _ rfl _ _) (by rw [vals_size, Ly.out]; kernel_rfl) (by first | rfl | (rw [vals_size, vals_size, Ly.out]; rfl)) vals_one ?_
       intro w8 qy8 hkeep hbg
       have hbe := ((Below.refl w7.heap.size w7).alloc (Nat.le_refl _) (.cells (vals .u64 Z6) 25)).trans hbg
       have hb8 := hb7.trans (hbe.mono hb7.size)
       clear hkeep hbg hbe hb7 )
    | (go_at_call 37
       refine (P1.out _ (rd_here hr hb6) (HG.out _ hb6)).mono ?_
       rintro e w7 ⟨rfl, hq⟩
       have hb7 := hb6.trans (hq.mono hb6.size)
       clear hq hb6 ))
  obtain ⟨b1, o1, rfl, hlb1, hc1⟩ := hr.at_ (by omega)
  refine wp_fam_all (by kernel_rfl) (by kernel_rfl) (fun I hI' fw hf hback => ?_)
  have c1 : ∀ j, (convert 34 9 (.slice (some ⟨w9.heap.size, 0, none⟩) 48 48)).run Tryd.prog (fw j) = .ok (.string (strOfNums b)) (fw j) := fun j => run_convert_bytes_arg (fw j) _ _ Tryd.underlying34 Tryd.underlying5 _ _ _ _ b Lb.out (fun i hi => by rw [Nat.zero_add]; exact (qt10.keep (hf j)).val (by rw [Lb.out]; exact hi)) _ Tryd.underlying9
  have c2 : ∀ j, (convert 34 9 (.slice (some ⟨b1, o1, none⟩) 48 c)).run Tryd.prog (fw j) = .ok (.string (strOfNums b)) (fw j) := fun j => run_convert_bytes_arg (fw j) _ _ Tryd.underlying34 Tryd.underlying5 _ _ _ _ b Lb.out (fun i hi => ((hb10.trans ((hf j).mono hb10.size)).cell (p := ⟨b1, o1 + i, none⟩) hlb1).trans (hc1 i hi)) _ Tryd.underlying9
  repeat (go_big_quiet_step (fail))
  refine wpQuiet_nil ?_
  intro w11 hq
  have hb11 := hb10.trans (hq.mono hb10.size)
  clear c1 c2 hf hback
  go_wp2
  go_ret
  exact ⟨rfl, hb11⟩

theorem fpBack_w (a : List Int) (hla : a.length = 6) (hwa : Words a) (A : Option Addr) (n c : Nat) (b : List Int) (w : World) (hG : GlobD w) (h : Rd w w.heap.size A n .u8 b ∧ Bytes b) : Calls Tryd.prog 12 #[.agg (vals .u64 a), .slice A n c] w fun e w' => e = .returned (.bool true) ∧ Below w.heap.size w w' := by
  by_cases hn : n = 48
  · by_cases hp : PP ≤ bnum b
    · exact fpBack_range a hla hwa A n c b w hG h.1 h.2 hn hp
    · exact fpBack_ok a hla hwa A n c b w hG h.1 h.2 hn hp
  · exact fpBack_len a hla hwa A n c b w hG h.1 h.2 hn
end Go.Proofs.YtpkfknmpegieaaaDoor.Fp
