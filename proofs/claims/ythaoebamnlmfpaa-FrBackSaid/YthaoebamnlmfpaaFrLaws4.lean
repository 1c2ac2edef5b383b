/-
  Own text. The walk of layer 6's statement that a number is read from its bytes.
-/
import Derived.Test.YthaoebamnlmfpaaFrLaws
import Derived.Laws.BytesArg
namespace Go.Proofs.Ythaoebamnlmfpaa.Fr
set_option linter.unusedVariables false
set_option linter.unusedSimpArgs false
open Go Go.RowKit Go.Proofs.Ythaoebamnlmfpaa.Num Go.Proofs.Ythaoebamnlmfpaa.Reg Go.Proofs.Ythaoebamnlmfpaa.Base Go.Proofs.Ythaoebamnlmfpaa.Limb Go.Proofs.Ythaoebamnlmfpaa.Bits

theorem emod_mul_ (v : Int) {p q : Int} (hp : 0 < p) (hq : 0 < q) : v % (p * q) = v % p + p * (v / p % q) := by
  have h1 := Int.mul_ediv_add_emod v p
  have h2 := Int.mul_ediv_add_emod (v / p) q
  have b1 := Int.emod_nonneg v (Int.ne_of_gt hp)
  have b2 := Int.emod_lt_of_pos v hp
  have b3 := Int.emod_nonneg (v / p) (Int.ne_of_gt hq)
  have b4 := Int.emod_lt_of_pos (v / p) hq
  have c1 : 0 ≤ p * (v / p % q) := Int.mul_nonneg (Int.le_of_lt hp) b3
  have c2 : p * (v / p % q) ≤ p * (q - 1) := Int.mul_le_mul_of_nonneg_left (by omega) (Int.le_of_lt hp)
  rw [Int.mul_sub, Int.mul_one] at c2
  refine (split_of (q := v / p / q) (by omega) (by omega) ?_).1
  grind
theorem bn_oct_ (a : List Int) (N : Nat) : ∀ k, k ≤ N → bn (octL a N) k = num a / tp (8 * (N - k)) % tp (8 * k)
  | 0, _ => by rw [Nat.mul_zero, tp_zero, Int.emod_one]; rfl
  | k + 1, h => by
    have e8 : tp 8 = 256 := rfl
    rw [bn_succ, bn_oct_ a N k (by omega), octL_nth a (by omega), show N - k = (N - (k + 1)) + 1 by omega, show N - 1 - k = N - (k + 1) by omega, Nat.mul_succ, tp_add, e8, ← div_div (tp_pos _)]
    generalize num a / tp (8 * (N - (k + 1))) = u
    rw [Nat.mul_succ, tp_add, e8, Int.mul_comm (tp (8 * k)) 256, emod_mul_ u (by omega) (tp_pos _)]
    omega
theorem bnum_oct_ {a : List Int} (hw : Words a) {n : Nat} (hn : a.length = n) : bnum (octL a (8 * n)) = num a := by
  have hb := num_bounds hw
  rw [bnum, octL_len, bn_oct_ a (8 * n) (8 * n) (Nat.le_refl _), Nat.sub_self, Nat.mul_zero, tp_zero, Int.ediv_one, show 8 * (8 * n) = 64 * n by omega, tp_wp, ← hn]
  exact Int.emod_eq_of_lt hb.1 hb.2
theorem bn_inj {b b' : List Int} (h : Bytes b) (h' : Bytes b') : ∀ k, bn b k = bn b' k → ∀ i, i < k → nth b i = nth b' i
  | 0, _, i, hi => by omega
  | k + 1, e, i, hi => by
    rw [bn_succ, bn_succ] at e
    have h1 := h k
    have h2 := h' k
    rcases Nat.lt_or_ge i k with hk | hk
    · exact bn_inj h h' k (by omega) i hk
    · obtain rfl : i = k := by omega
      omega
theorem bnum_inj {b b' : List Int} (h : Bytes b) (h' : Bytes b') (hl : b.length = b'.length) (e : bnum b = bnum b') : b = b' :=
  ext_nth hl fun i hi => bn_inj h h' b.length (by rw [bnum, bnum, ← hl] at e; exact e) i hi
theorem bnum_fr (v : Int) : bnum (octL (fr v) 32) = v % RR := by
  have h := bnum_oct_ (fr_words v) (fr_len v)
  rw [num_fr] at h
  exact h
theorem oct_fr {b : List Int} (h : Bytes b) (hl : b.length = 32) (hp : bnum b < RR) : octL (fr (bnum b)) 32 = b := by
  refine bnum_inj (octL_bytes _ _) h (by rw [octL_len, hl]) ?_
  rw [bnum_fr]
  have h0 : 0 ≤ bnum b := (bn_bounds h b.length).1
  exact Int.emod_eq_of_lt h0 hp

set_option maxRecDepth 100000 in
set_option maxHeartbeats 4000000 in
theorem back_len (a : List Int) (hla : a.length = 4) (hwa : Words a) (A : Option Addr) (n c : Nat) (b : List Int) (w : World) (hr : Rd w w.heap.size A n .u8 b) (hby : Bytes b) (hn : n ≠ 32) : Calls Try.prog 10 #[.agg (vals .u64 a), .slice A n c] w fun e w' => e = .returned (.bool true) ∧ Below w.heap.size w w' := by
  have hxr := fr_mod (num a)
  obtain ⟨x, hx⟩ : ∃ o, fr (num a) = o := ⟨_, rfl⟩
  have Lx : Keep (x.length = 4) := ⟨by rw [← hx]; exact fr_len _⟩
  have Ex := eq4 x Lx.out
  obtain ⟨s, hs⟩ : ∃ o, octL (fr (num a)) 32 = o := ⟨_, rfl⟩
  have Ls : Keep (s.length = 32) := ⟨by rw [← hs]; exact octL_len _ _⟩
  have bs : Bytes s := by rw [← hs]; exact octL_bytes _ _
  have ns : bnum s = num a % RR := by rw [← hs]; exact bnum_fr _
  have L32 : Keep ((List.replicate 32 (0 : Int)).length = 32) := ⟨rfl⟩
  have A1 : Keep (∀ x : World, _) := ⟨fun x => frBytes_c a hla hwa x⟩
  have A2 : Keep (∀ x : World, _) := ⟨fun x => frReduce_c a hla hwa x⟩
  have A3 : Keep (∀ x : World, _) := ⟨fun x => frR_c x⟩
  rw [hs] at A1
  rw [hx] at A2
  have P0 : Keep (∀ (y : World) (g : Nat), Has y g 36 (vals .u8 s) → Calls Try.prog 24 #[.slice (some ⟨g, 0, none⟩) 32 32] y fun e y' => e = .returned (.tuple #[.agg (vals .u64 x), .int .i64 0]) ∧ Below y.heap.size y y') := ⟨fun y g h => by
    have h1 := frFromBytes_ok (some ⟨g, 0, none⟩) 32 s y.heap.size y (Rd.of_has h h.lt (by rw [List.drop_zero, take_all Ls.out]) (by rw [Ls.out]; omega)) bs (Nat.le_refl _) (by rw [ns]; omega)
    rw [ns, show fr (num a % RR) = x by rw [← hx]; exact fr_congr (Int.emod_emod _ _)] at h1
    exact h1⟩
  have P6 : Keep (∀ (y : World) (g : Nat), Has y g 36 (vals .u8 s) → Calls Try.prog 26 #[.slice (some ⟨g, 0, none⟩) 32 32] y fun e y' => e = .returned (.agg (vals .u64 x)) ∧ Below y.heap.size y y') := ⟨fun y g h => by
    have h1 := frFromOctets_c (some ⟨g, 0, none⟩) 32 32 s y.heap.size y (Rd.of_has h h.lt (by rw [List.drop_zero, take_all Ls.out]) (by rw [Ls.out]; omega)) bs (Nat.le_refl _) (by omega)
    rw [ns, show fr (num a % RR) = x by rw [← hx]; exact fr_congr (Int.emod_emod _ _)] at h1
    exact h1⟩
  have P7 : Keep (∀ (y : World) (g g' : Nat), Has y g 25 (vals .u64 x) → Has y g' 25 (vals .u64 mL) → Calls Try.prog 36 #[.slice (some ⟨g, 0, none⟩) 4 4, .slice (some ⟨g', 0, none⟩) 4 4] y fun e y' => e = .returned (.int .i64 (-1)) ∧ Below y.heap.size y y') := ⟨fun y g g' h h' => by
    have h1 := cmp_c (some ⟨g, 0, none⟩) 4 4 x (some ⟨g', 0, none⟩) 4 4 mL y.heap.size y (Rd.of_has h h.lt (by rw [List.drop_zero, take_all Lx.out]) (by rw [Lx.out]; omega)) (by rw [← hx]; exact fr_words _) (Rd.of_has h' h'.lt (by rfl) (by decide)) mL_words (Nat.le_refl _) (by omega) (by omega)
    rw [show cmpL x mL = -1 by unfold cmpL; rw [num_mL, ← hx, num_fr, if_pos hxr.2]] at h1
    exact h1⟩
  have EZ := eq4 Z4 rfl
  have P1 : Keep (∀ w', Rd w' w'.heap.size A n .u8 b → Calls Try.prog 24 #[.slice A n c] w' fun e w'' => e = .returned (.tuple #[.agg (vals .u64 Z4), .int .i64 60]) ∧ Below w'.heap.size w' w'') := ⟨fun w' _ => frFromBytes_no A n c w' hn⟩
  have hne : ((n : Int) != 32) = true := by rw [bne_iff_ne]; omega
  have hne2 : ¬ (n : Int) = 32 := by omega
  have hgd := gd4
  have La : Keep (a.length = 4) := ⟨hla⟩
  have Va : Keep (Words a) := ⟨hwa⟩
  have LZ : Keep (Z4.length = 4) := ⟨rfl⟩
  have LM : Keep (mL.length = 4) := ⟨rfl⟩
  obtain ⟨S, hS⟩ : ∃ S, w.heap.size = S := ⟨_, rfl⟩
  have qa0 : Has (w.alloc (.cells (vals .u64 a) 25)) (S) 25 (vals .u64 a) := by exact (Has.new' _ hS.symm _ _)
  have hb0 : Below S w (w.alloc (.cells (vals .u64 a) 25)) := by rw [← hS]; exact ((Below.refl _ _).alloc (Nat.le_refl _) _)
  have hsz0 : (w.alloc (.cells (vals .u64 a) 25)).heap.size = S + 1 := by simp only [World.size_alloc, hS]
  have HS0 : Keep (S ≤ w.heap.size) := ⟨by omega⟩
  have HSS : Keep (∀ x : World, Below S w x → S ≤ x.heap.size) := ⟨fun x hb => Nat.le_trans HS0.out hb.size⟩
  rw [hS]
  have HRD : Keep (∀ x : World, Below S w x → Rd x x.heap.size A n .u8 b) := ⟨fun x hb => (hr.keep hb (by omega)).more (by have := HSS.out _ hb; omega)⟩
  clear hx hs hxr bs ns hr hby hn
  clear hla hwa
  go_enter Try.func10, Try.ntmps10
  go_wp2_with (first
    | (refine store_abs2 (by rfl) 25 (.tmp 9) (.tmp 21) (by rfl) (by rfl) (w6.heap.size) (vals .u64 mL) (by rfl) (by rfl) 25 (vals .u64 Z4) (Has.new' _ rfl _ _) (by rw [vals_size, LM.out]; kernel_rfl) (by first | rfl | (rw [vals_size, vals_size, LM.out]; rfl)) vals_one ?_
       intro w7 qm7 hkeep hbg
       have hbe := ((Below.refl (w6).heap.size (w6)).alloc (Nat.le_refl _) (.cells (vals .u64 Z4) 25)).trans hbg
       have Nam : Keep (S < w6.heap.size) := ⟨qa6.lt⟩
       have Nsm : Keep (w2.heap.size < w6.heap.size) := ⟨qs6.lt⟩
       have Nxm : Keep (w4.heap.size < w6.heap.size) := ⟨qx6.lt⟩
       have Mm : Keep (S ≤ w6.heap.size) := ⟨HSS.out _ hb6⟩
       have qa7 := qa6.keep hbe
       have qs7 := qs6.keep hbe
       have qx7 := qx6.keep hbe
       have hb7 := hb6.trans (hbe.mono (HSS.out _ hb6))
       clear hkeep hbg hbe hb6 qa6 qs6 qx6)
    | (have hq0 := hb5
       clear hq0
       go_at_call 12
       refine (A3.out _).mono ?_
       rintro e w6 ⟨rfl, hq⟩
       have qa6 := qa5.keep hq
       have qs6 := qs5.keep hq
       have qx6 := qx5.keep hq
       have hb6 := hb5.trans (hq.mono (HSS.out _ hb5))
       clear hq hb5 qa5 qs5 qx5)
    | (refine store_abs2 (by rfl) 25 (.tmp 7) (.tmp 19) (by rfl) (by rfl) (w4.heap.size) (vals .u64 x) (by rfl) (by rfl) 25 (vals .u64 Z4) (Has.new' _ rfl _ _) (by rw [vals_size, Lx.out]; kernel_rfl) (by first | rfl | (rw [vals_size, vals_size, Lx.out]; rfl)) vals_one ?_
       intro w5 qx5 hkeep hbg
       have hbe := ((Below.refl (w4).heap.size (w4)).alloc (Nat.le_refl _) (.cells (vals .u64 Z4) 25)).trans hbg
       have Nax : Keep (S < w4.heap.size) := ⟨qa4.lt⟩
       have Nsx : Keep (w2.heap.size < w4.heap.size) := ⟨qs4.lt⟩
       have Mx : Keep (S ≤ w4.heap.size) := ⟨HSS.out _ hb4⟩
       have qa5 := qa4.keep hbe
       have qs5 := qs4.keep hbe
       have hb5 := hb4.trans (hbe.mono (HSS.out _ hb4))
       clear hkeep hbg hbe hb4 qa4 qs4)
    | (have hq0 := hb3
       clear hq0
       go_at_call 24
       refine (P0.out _ _ qs3).mono ?_
       rintro e w4 ⟨rfl, hq⟩
       have qa4 := qa3.keep hq
       have qs4 := qs3.keep hq
       have hb4 := hb3.trans (hq.mono (HSS.out _ hb3))
       clear hq hb3 qa3 qs3)
    | (refine store_abs2 (by rfl) 36 (.tmp 6) (.tmp 15) (by rfl) (by rfl) (w2.heap.size) (vals .u8 s) (by rfl) (by rfl) 36 (vals .u8 (List.replicate 32 0)) (Has.new' _ rfl _ _) (by rw [vals_size, Ls.out]; kernel_rfl) (by first | rfl | (rw [vals_size, vals_size, Ls.out]; rfl)) vals_one ?_
       intro w3 qs3 hkeep hbg
       have hbe := ((Below.refl (w2).heap.size (w2)).alloc (Nat.le_refl _) (.cells (vals .u8 (List.replicate 32 0)) 36)).trans hbg
       have Nas : Keep (S < w2.heap.size) := ⟨qa2.lt⟩
       have Ms : Keep (S ≤ w2.heap.size) := ⟨HSS.out _ hb2⟩
       have qa3 := qa2.keep hbe
       have hb3 := hb2.trans (hbe.mono (HSS.out _ hb2))
       clear hkeep hbg hbe hb2 qa2)
    | (have hq0 := hb1
       clear hq0
       go_at_call 28
       refine (A1.out _).mono ?_
       rintro e w2 ⟨rfl, hq⟩
       have qa2 := qa1.keep hq
       have hb2 := hb1.trans (hq.mono (HSS.out _ hb1))
       clear hq hb1 qa1)
    | (refine wpList_load_row rfl 25 (.tmp 2) rfl (S) rfl _ _ _ _ qa1.eq Try.underlying25 rfl (by rw [vals_size, La.out]; kernel_rfl) ?_)
    | (have hq0 := hb0
       clear hq0
       go_at_call 11
       refine (awake_c _).mono ?_
       rintro e w1 ⟨rfl, hq⟩
       have qa1 := qa0.keep hq
       have hb1 := hb0.trans (hq.mono (HSS.out _ hb0))
       clear hq hb0 qa0))
  have R6 := fun w' (h : Below w7.heap.size w7 w') => P6.out w' _ (qs7.keep h)
  have R6' : Keep _ := ⟨R6⟩
  clear R6
  have R7 := fun w' (h : Below w7.heap.size w7 w') => P7.out w' _ _ (qx7.keep h) (qm7.keep h)
  have R7' : Keep _ := ⟨R7⟩
  clear R7
  refine wp_fam_all (by kernel_rfl) (by kernel_rfl) (fun I hI' fw hf hback => ?_)
  repeat (first
    | (go_big_quiet_want
       refine quiet_load_seg 25 (.tmp 2) (by rfl) (S) 0 4 (by rfl) 25 .u64 a a _ (fun w' ⟨i, hi⟩ => by rw [hi]; exact qa7.keep (hf i)) Try.underlying25 rfl (by kernel_rfl) (by rw [List.drop_zero, take_all La.out]) (by rw [La.out]; omega) ?_
       simp only [Act.put, List.setIfInBounds_toArray, List.set_cons_zero, List.set_cons_succ]
       go_big_quiet_on)
    | (go_big_quiet_want
       refine quiet_load_seg 25 (.tmp 7) (by rfl) (w4.heap.size) 0 4 (by rfl) 25 .u64 x x _ (fun w' ⟨i, hi⟩ => by rw [hi]; exact qx7.keep (hf i)) Try.underlying25 rfl (by kernel_rfl) (by rw [List.drop_zero, take_all Lx.out]) (by rw [Lx.out]; omega) ?_
       simp only [Act.put, List.setIfInBounds_toArray, List.set_cons_zero, List.set_cons_succ]
       go_big_quiet_on)
    | go_big_quiet_step (first | fail | (go_at_call 14; with_reducible exact calls_fam hf hback (A2.out _)) | (go_at_call 26; with_reducible exact calls_fam hf hback (R6'.out _ (hf _))) | (go_at_call 36; with_reducible exact calls_fam hf hback (R7'.out _ (hf _)))))
  refine wpQuiet_nil ?_
  intro w8 hq
  have qa8 := qa7.keep hq
  have qs8 := qs7.keep hq
  have qx8 := qx7.keep hq
  have qm8 := qm7.keep hq
  have hb8 := hb7.trans (hq.mono (HSS.out _ hb7))
  clear hf hback hq hb7 qa7 qs7 qx7 qm7 
  go_wp2_with (first
    | (refine wpList_free_at 52 (by rfl) (by rfl) ?_; refine wpList_buildTo (by rfl) 25 #[] (by rfl) (some 52) (by rfl) (vals .u64 Z4) (by kernel_rfl) ?_)
    | (refine wpList_free_at 51 (by rfl) (by rfl) ?_; refine wpList_load_row rfl 25 (.tmp 10) rfl (w9.heap.size) rfl _ _ _ _ qy10.eq Try.underlying25 rfl (by rw [vals_size, LZ.out]; kernel_rfl) ?_)
    | (refine store_abs2 (by rfl) 25 (.tmp 10) (.tmp 45) (by rfl) (by rfl) (w9.heap.size) (vals .u64 Z4) (by rfl) (by rfl) 25 (vals .u64 Z4) (Has.new' _ rfl _ _) (by rw [vals_size, LZ.out]; kernel_rfl) (by first | rfl | (rw [vals_size, vals_size, LZ.out]; rfl)) vals_one ?_
       intro w10 qy10 hkeep hbg
       have hbe := ((Below.refl (w9).heap.size (w9)).alloc (Nat.le_refl _) (.cells (vals .u64 Z4) 25)).trans hbg
       have Nay : Keep (S < w9.heap.size) := ⟨qa9.lt⟩
       have Nsy : Keep (w2.heap.size < w9.heap.size) := ⟨qs9.lt⟩
       have Nxy : Keep (w4.heap.size < w9.heap.size) := ⟨qx9.lt⟩
       have Nmy : Keep (w6.heap.size < w9.heap.size) := ⟨qm9.lt⟩
       have My : Keep (S ≤ w9.heap.size) := ⟨HSS.out _ hb9⟩
       have qa10 := qa9.keep hbe
       have qs10 := qs9.keep hbe
       have qx10 := qx9.keep hbe
       have qm10 := qm9.keep hbe
       have hb10 := hb9.trans (hbe.mono (HSS.out _ hb9))
       clear hkeep hbg hbe hb9 qa9 qs9 qx9 qm9)
    | (have hq0 := hb8
       clear hq0
       go_at_call 24
       refine (P1.out _ (HRD.out _ hb8)).mono ?_
       rintro e w9 ⟨rfl, hq⟩
       have qa9 := qa8.keep hq
       have qs9 := qs8.keep hq
       have qx9 := qx8.keep hq
       have qm9 := qm8.keep hq
       have hb9 := hb8.trans (hq.mono (HSS.out _ hb8))
       clear hq hb8 qa8 qs8 qx8 qm8))
  go_ret
  exact ⟨rfl, hb10⟩

set_option maxRecDepth 100000 in
set_option maxHeartbeats 4000000 in
theorem back_range (a : List Int) (hla : a.length = 4) (hwa : Words a) (A : Option Addr) (n c : Nat) (b : List Int) (w : World) (hr : Rd w w.heap.size A n .u8 b) (hby : Bytes b) (hn : n = 32) (hp : RR ≤ bnum b) : Calls Try.prog 10 #[.agg (vals .u64 a), .slice A n c] w fun e w' => e = .returned (.bool true) ∧ Below w.heap.size w w' := by
  have hxr := fr_mod (num a)
  obtain ⟨x, hx⟩ : ∃ o, fr (num a) = o := ⟨_, rfl⟩
  have Lx : Keep (x.length = 4) := ⟨by rw [← hx]; exact fr_len _⟩
  have Ex := eq4 x Lx.out
  obtain ⟨s, hs⟩ : ∃ o, octL (fr (num a)) 32 = o := ⟨_, rfl⟩
  have Ls : Keep (s.length = 32) := ⟨by rw [← hs]; exact octL_len _ _⟩
  have bs : Bytes s := by rw [← hs]; exact octL_bytes _ _
  have ns : bnum s = num a % RR := by rw [← hs]; exact bnum_fr _
  have L32 : Keep ((List.replicate 32 (0 : Int)).length = 32) := ⟨rfl⟩
  have A1 : Keep (∀ x : World, _) := ⟨fun x => frBytes_c a hla hwa x⟩
  have A2 : Keep (∀ x : World, _) := ⟨fun x => frReduce_c a hla hwa x⟩
  have A3 : Keep (∀ x : World, _) := ⟨fun x => frR_c x⟩
  rw [hs] at A1
  rw [hx] at A2
  have P0 : Keep (∀ (y : World) (g : Nat), Has y g 36 (vals .u8 s) → Calls Try.prog 24 #[.slice (some ⟨g, 0, none⟩) 32 32] y fun e y' => e = .returned (.tuple #[.agg (vals .u64 x), .int .i64 0]) ∧ Below y.heap.size y y') := ⟨fun y g h => by
    have h1 := frFromBytes_ok (some ⟨g, 0, none⟩) 32 s y.heap.size y (Rd.of_has h h.lt (by rw [List.drop_zero, take_all Ls.out]) (by rw [Ls.out]; omega)) bs (Nat.le_refl _) (by rw [ns]; omega)
    rw [ns, show fr (num a % RR) = x by rw [← hx]; exact fr_congr (Int.emod_emod _ _)] at h1
    exact h1⟩
  have P6 : Keep (∀ (y : World) (g : Nat), Has y g 36 (vals .u8 s) → Calls Try.prog 26 #[.slice (some ⟨g, 0, none⟩) 32 32] y fun e y' => e = .returned (.agg (vals .u64 x)) ∧ Below y.heap.size y y') := ⟨fun y g h => by
    have h1 := frFromOctets_c (some ⟨g, 0, none⟩) 32 32 s y.heap.size y (Rd.of_has h h.lt (by rw [List.drop_zero, take_all Ls.out]) (by rw [Ls.out]; omega)) bs (Nat.le_refl _) (by omega)
    rw [ns, show fr (num a % RR) = x by rw [← hx]; exact fr_congr (Int.emod_emod _ _)] at h1
    exact h1⟩
  have P7 : Keep (∀ (y : World) (g g' : Nat), Has y g 25 (vals .u64 x) → Has y g' 25 (vals .u64 mL) → Calls Try.prog 36 #[.slice (some ⟨g, 0, none⟩) 4 4, .slice (some ⟨g', 0, none⟩) 4 4] y fun e y' => e = .returned (.int .i64 (-1)) ∧ Below y.heap.size y y') := ⟨fun y g g' h h' => by
    have h1 := cmp_c (some ⟨g, 0, none⟩) 4 4 x (some ⟨g', 0, none⟩) 4 4 mL y.heap.size y (Rd.of_has h h.lt (by rw [List.drop_zero, take_all Lx.out]) (by rw [Lx.out]; omega)) (by rw [← hx]; exact fr_words _) (Rd.of_has h' h'.lt (by rfl) (by decide)) mL_words (Nat.le_refl _) (by omega) (by omega)
    rw [show cmpL x mL = -1 by unfold cmpL; rw [num_mL, ← hx, num_fr, if_pos hxr.2]] at h1
    exact h1⟩
  have EZ := eq4 Z4 rfl
  subst hn
  have P1 : Keep (∀ w', Rd w' w'.heap.size A 32 .u8 b → Calls Try.prog 24 #[.slice A 32 c] w' fun e w'' => e = .returned (.tuple #[.agg (vals .u64 Z4), .int .i64 61]) ∧ Below w'.heap.size w' w'') := ⟨fun w' h => frFromBytes_range A c b _ w' h hby (Nat.le_refl _) hp⟩
  have hgd := gd4
  have La : Keep (a.length = 4) := ⟨hla⟩
  have Va : Keep (Words a) := ⟨hwa⟩
  have LZ : Keep (Z4.length = 4) := ⟨rfl⟩
  have LM : Keep (mL.length = 4) := ⟨rfl⟩
  obtain ⟨S, hS⟩ : ∃ S, w.heap.size = S := ⟨_, rfl⟩
  have qa0 : Has (w.alloc (.cells (vals .u64 a) 25)) (S) 25 (vals .u64 a) := by exact (Has.new' _ hS.symm _ _)
  have hb0 : Below S w (w.alloc (.cells (vals .u64 a) 25)) := by rw [← hS]; exact ((Below.refl _ _).alloc (Nat.le_refl _) _)
  have hsz0 : (w.alloc (.cells (vals .u64 a) 25)).heap.size = S + 1 := by simp only [World.size_alloc, hS]
  have HS0 : Keep (S ≤ w.heap.size) := ⟨by omega⟩
  have HSS : Keep (∀ x : World, Below S w x → S ≤ x.heap.size) := ⟨fun x hb => Nat.le_trans HS0.out hb.size⟩
  rw [hS]
  have HRD : Keep (∀ x : World, Below S w x → Rd x x.heap.size A 32 .u8 b) := ⟨fun x hb => (hr.keep hb (by omega)).more (by have := HSS.out _ hb; omega)⟩
  clear hx hs hxr bs ns hr hby hp
  clear hla hwa
  go_enter Try.func10, Try.ntmps10
  go_wp2_with (first
    | (refine store_abs2 (by rfl) 25 (.tmp 9) (.tmp 21) (by rfl) (by rfl) (w6.heap.size) (vals .u64 mL) (by rfl) (by rfl) 25 (vals .u64 Z4) (Has.new' _ rfl _ _) (by rw [vals_size, LM.out]; kernel_rfl) (by first | rfl | (rw [vals_size, vals_size, LM.out]; rfl)) vals_one ?_
       intro w7 qm7 hkeep hbg
       have hbe := ((Below.refl (w6).heap.size (w6)).alloc (Nat.le_refl _) (.cells (vals .u64 Z4) 25)).trans hbg
       have Nam : Keep (S < w6.heap.size) := ⟨qa6.lt⟩
       have Nsm : Keep (w2.heap.size < w6.heap.size) := ⟨qs6.lt⟩
       have Nxm : Keep (w4.heap.size < w6.heap.size) := ⟨qx6.lt⟩
       have Mm : Keep (S ≤ w6.heap.size) := ⟨HSS.out _ hb6⟩
       have qa7 := qa6.keep hbe
       have qs7 := qs6.keep hbe
       have qx7 := qx6.keep hbe
       have hb7 := hb6.trans (hbe.mono (HSS.out _ hb6))
       clear hkeep hbg hbe hb6 qa6 qs6 qx6)
    | (have hq0 := hb5
       clear hq0
       go_at_call 12
       refine (A3.out _).mono ?_
       rintro e w6 ⟨rfl, hq⟩
       have qa6 := qa5.keep hq
       have qs6 := qs5.keep hq
       have qx6 := qx5.keep hq
       have hb6 := hb5.trans (hq.mono (HSS.out _ hb5))
       clear hq hb5 qa5 qs5 qx5)
    | (refine store_abs2 (by rfl) 25 (.tmp 7) (.tmp 19) (by rfl) (by rfl) (w4.heap.size) (vals .u64 x) (by rfl) (by rfl) 25 (vals .u64 Z4) (Has.new' _ rfl _ _) (by rw [vals_size, Lx.out]; kernel_rfl) (by first | rfl | (rw [vals_size, vals_size, Lx.out]; rfl)) vals_one ?_
       intro w5 qx5 hkeep hbg
       have hbe := ((Below.refl (w4).heap.size (w4)).alloc (Nat.le_refl _) (.cells (vals .u64 Z4) 25)).trans hbg
       have Nax : Keep (S < w4.heap.size) := ⟨qa4.lt⟩
       have Nsx : Keep (w2.heap.size < w4.heap.size) := ⟨qs4.lt⟩
       have Mx : Keep (S ≤ w4.heap.size) := ⟨HSS.out _ hb4⟩
       have qa5 := qa4.keep hbe
       have qs5 := qs4.keep hbe
       have hb5 := hb4.trans (hbe.mono (HSS.out _ hb4))
       clear hkeep hbg hbe hb4 qa4 qs4)
    | (have hq0 := hb3
       clear hq0
       go_at_call 24
       refine (P0.out _ _ qs3).mono ?_
       rintro e w4 ⟨rfl, hq⟩
       have qa4 := qa3.keep hq
       have qs4 := qs3.keep hq
       have hb4 := hb3.trans (hq.mono (HSS.out _ hb3))
       clear hq hb3 qa3 qs3)
    | (refine store_abs2 (by rfl) 36 (.tmp 6) (.tmp 15) (by rfl) (by rfl) (w2.heap.size) (vals .u8 s) (by rfl) (by rfl) 36 (vals .u8 (List.replicate 32 0)) (Has.new' _ rfl _ _) (by rw [vals_size, Ls.out]; kernel_rfl) (by first | rfl | (rw [vals_size, vals_size, Ls.out]; rfl)) vals_one ?_
       intro w3 qs3 hkeep hbg
       have hbe := ((Below.refl (w2).heap.size (w2)).alloc (Nat.le_refl _) (.cells (vals .u8 (List.replicate 32 0)) 36)).trans hbg
       have Nas : Keep (S < w2.heap.size) := ⟨qa2.lt⟩
       have Ms : Keep (S ≤ w2.heap.size) := ⟨HSS.out _ hb2⟩
       have qa3 := qa2.keep hbe
       have hb3 := hb2.trans (hbe.mono (HSS.out _ hb2))
       clear hkeep hbg hbe hb2 qa2)
    | (have hq0 := hb1
       clear hq0
       go_at_call 28
       refine (A1.out _).mono ?_
       rintro e w2 ⟨rfl, hq⟩
       have qa2 := qa1.keep hq
       have hb2 := hb1.trans (hq.mono (HSS.out _ hb1))
       clear hq hb1 qa1)
    | (refine wpList_load_row rfl 25 (.tmp 2) rfl (S) rfl _ _ _ _ qa1.eq Try.underlying25 rfl (by rw [vals_size, La.out]; kernel_rfl) ?_)
    | (have hq0 := hb0
       clear hq0
       go_at_call 11
       refine (awake_c _).mono ?_
       rintro e w1 ⟨rfl, hq⟩
       have qa1 := qa0.keep hq
       have hb1 := hb0.trans (hq.mono (HSS.out _ hb0))
       clear hq hb0 qa0))
  have R6 := fun w' (h : Below w7.heap.size w7 w') => P6.out w' _ (qs7.keep h)
  have R6' : Keep _ := ⟨R6⟩
  clear R6
  have R7 := fun w' (h : Below w7.heap.size w7 w') => P7.out w' _ _ (qx7.keep h) (qm7.keep h)
  have R7' : Keep _ := ⟨R7⟩
  clear R7
  refine wp_fam_all (by kernel_rfl) (by kernel_rfl) (fun I hI' fw hf hback => ?_)
  repeat (first
    | (go_big_quiet_want
       refine quiet_load_seg 25 (.tmp 2) (by rfl) (S) 0 4 (by rfl) 25 .u64 a a _ (fun w' ⟨i, hi⟩ => by rw [hi]; exact qa7.keep (hf i)) Try.underlying25 rfl (by kernel_rfl) (by rw [List.drop_zero, take_all La.out]) (by rw [La.out]; omega) ?_
       simp only [Act.put, List.setIfInBounds_toArray, List.set_cons_zero, List.set_cons_succ]
       go_big_quiet_on)
    | (go_big_quiet_want
       refine quiet_load_seg 25 (.tmp 7) (by rfl) (w4.heap.size) 0 4 (by rfl) 25 .u64 x x _ (fun w' ⟨i, hi⟩ => by rw [hi]; exact qx7.keep (hf i)) Try.underlying25 rfl (by kernel_rfl) (by rw [List.drop_zero, take_all Lx.out]) (by rw [Lx.out]; omega) ?_
       simp only [Act.put, List.setIfInBounds_toArray, List.set_cons_zero, List.set_cons_succ]
       go_big_quiet_on)
    | go_big_quiet_step (first | fail | (go_at_call 14; with_reducible exact calls_fam hf hback (A2.out _)) | (go_at_call 26; with_reducible exact calls_fam hf hback (R6'.out _ (hf _))) | (go_at_call 36; with_reducible exact calls_fam hf hback (R7'.out _ (hf _)))))
  refine wpQuiet_nil ?_
  intro w8 hq
  have qa8 := qa7.keep hq
  have qs8 := qs7.keep hq
  have qx8 := qx7.keep hq
  have qm8 := qm7.keep hq
  have hb8 := hb7.trans (hq.mono (HSS.out _ hb7))
  clear hf hback hq hb7 qa7 qs7 qx7 qm7 
  go_wp2_with (first
    | (refine wpList_free_at 52 (by rfl) (by rfl) ?_; refine wpList_buildTo (by rfl) 25 #[] (by rfl) (some 52) (by rfl) (vals .u64 Z4) (by kernel_rfl) ?_)
    | (refine wpList_free_at 51 (by rfl) (by rfl) ?_; refine wpList_load_row rfl 25 (.tmp 10) rfl (w9.heap.size) rfl _ _ _ _ qy10.eq Try.underlying25 rfl (by rw [vals_size, LZ.out]; kernel_rfl) ?_)
    | (refine store_abs2 (by rfl) 25 (.tmp 10) (.tmp 45) (by rfl) (by rfl) (w9.heap.size) (vals .u64 Z4) (by rfl) (by rfl) 25 (vals .u64 Z4) (Has.new' _ rfl _ _) (by rw [vals_size, LZ.out]; kernel_rfl) (by first | rfl | (rw [vals_size, vals_size, LZ.out]; rfl)) vals_one ?_
       intro w10 qy10 hkeep hbg
       have hbe := ((Below.refl (w9).heap.size (w9)).alloc (Nat.le_refl _) (.cells (vals .u64 Z4) 25)).trans hbg
       have Nay : Keep (S < w9.heap.size) := ⟨qa9.lt⟩
       have Nsy : Keep (w2.heap.size < w9.heap.size) := ⟨qs9.lt⟩
       have Nxy : Keep (w4.heap.size < w9.heap.size) := ⟨qx9.lt⟩
       have Nmy : Keep (w6.heap.size < w9.heap.size) := ⟨qm9.lt⟩
       have My : Keep (S ≤ w9.heap.size) := ⟨HSS.out _ hb9⟩
       have qa10 := qa9.keep hbe
       have qs10 := qs9.keep hbe
       have qx10 := qx9.keep hbe
       have qm10 := qm9.keep hbe
       have hb10 := hb9.trans (hbe.mono (HSS.out _ hb9))
       clear hkeep hbg hbe hb9 qa9 qs9 qx9 qm9)
    | (have hq0 := hb8
       clear hq0
       go_at_call 24
       refine (P1.out _ (HRD.out _ hb8)).mono ?_
       rintro e w9 ⟨rfl, hq⟩
       have qa9 := qa8.keep hq
       have qs9 := qs8.keep hq
       have qx9 := qx8.keep hq
       have qm9 := qm8.keep hq
       have hb9 := hb8.trans (hq.mono (HSS.out _ hb8))
       clear hq hb8 qa8 qs8 qx8 qm8))
  go_ret
  exact ⟨rfl, hb10⟩

set_option maxRecDepth 100000 in
set_option maxHeartbeats 4000000 in
theorem back_ok (a : List Int) (hla : a.length = 4) (hwa : Words a) (A : Option Addr) (n c : Nat) (b : List Int) (w : World) (hr : Rd w w.heap.size A n .u8 b) (hby : Bytes b) (hn : n = 32) (hp : ¬ RR ≤ bnum b) : Calls Try.prog 10 #[.agg (vals .u64 a), .slice A n c] w fun e w' => e = .returned (.bool true) ∧ Below w.heap.size w w' := by
  have hxr := fr_mod (num a)
  obtain ⟨x, hx⟩ : ∃ o, fr (num a) = o := ⟨_, rfl⟩
  have Lx : Keep (x.length = 4) := ⟨by rw [← hx]; exact fr_len _⟩
  have Ex := eq4 x Lx.out
  obtain ⟨s, hs⟩ : ∃ o, octL (fr (num a)) 32 = o := ⟨_, rfl⟩
  have Ls : Keep (s.length = 32) := ⟨by rw [← hs]; exact octL_len _ _⟩
  have bs : Bytes s := by rw [← hs]; exact octL_bytes _ _
  have ns : bnum s = num a % RR := by rw [← hs]; exact bnum_fr _
  have L32 : Keep ((List.replicate 32 (0 : Int)).length = 32) := ⟨rfl⟩
  have A1 : Keep (∀ x : World, _) := ⟨fun x => frBytes_c a hla hwa x⟩
  have A2 : Keep (∀ x : World, _) := ⟨fun x => frReduce_c a hla hwa x⟩
  have A3 : Keep (∀ x : World, _) := ⟨fun x => frR_c x⟩
  rw [hs] at A1
  rw [hx] at A2
  have P0 : Keep (∀ (y : World) (g : Nat), Has y g 36 (vals .u8 s) → Calls Try.prog 24 #[.slice (some ⟨g, 0, none⟩) 32 32] y fun e y' => e = .returned (.tuple #[.agg (vals .u64 x), .int .i64 0]) ∧ Below y.heap.size y y') := ⟨fun y g h => by
    have h1 := frFromBytes_ok (some ⟨g, 0, none⟩) 32 s y.heap.size y (Rd.of_has h h.lt (by rw [List.drop_zero, take_all Ls.out]) (by rw [Ls.out]; omega)) bs (Nat.le_refl _) (by rw [ns]; omega)
    rw [ns, show fr (num a % RR) = x by rw [← hx]; exact fr_congr (Int.emod_emod _ _)] at h1
    exact h1⟩
  have P6 : Keep (∀ (y : World) (g : Nat), Has y g 36 (vals .u8 s) → Calls Try.prog 26 #[.slice (some ⟨g, 0, none⟩) 32 32] y fun e y' => e = .returned (.agg (vals .u64 x)) ∧ Below y.heap.size y y') := ⟨fun y g h => by
    have h1 := frFromOctets_c (some ⟨g, 0, none⟩) 32 32 s y.heap.size y (Rd.of_has h h.lt (by rw [List.drop_zero, take_all Ls.out]) (by rw [Ls.out]; omega)) bs (Nat.le_refl _) (by omega)
    rw [ns, show fr (num a % RR) = x by rw [← hx]; exact fr_congr (Int.emod_emod _ _)] at h1
    exact h1⟩
  have P7 : Keep (∀ (y : World) (g g' : Nat), Has y g 25 (vals .u64 x) → Has y g' 25 (vals .u64 mL) → Calls Try.prog 36 #[.slice (some ⟨g, 0, none⟩) 4 4, .slice (some ⟨g', 0, none⟩) 4 4] y fun e y' => e = .returned (.int .i64 (-1)) ∧ Below y.heap.size y y') := ⟨fun y g g' h h' => by
    have h1 := cmp_c (some ⟨g, 0, none⟩) 4 4 x (some ⟨g', 0, none⟩) 4 4 mL y.heap.size y (Rd.of_has h h.lt (by rw [List.drop_zero, take_all Lx.out]) (by rw [Lx.out]; omega)) (by rw [← hx]; exact fr_words _) (Rd.of_has h' h'.lt (by rfl) (by decide)) mL_words (Nat.le_refl _) (by omega) (by omega)
    rw [show cmpL x mL = -1 by unfold cmpL; rw [num_mL, ← hx, num_fr, if_pos hxr.2]] at h1
    exact h1⟩
  subst hn
  obtain ⟨y, hy⟩ : ∃ o, fr (bnum b) = o := ⟨_, rfl⟩
  have Ly : Keep (y.length = 4) := ⟨by rw [← hy]; exact fr_len _⟩
  have Lb : Keep (b.length = 32) := ⟨hr.len⟩
  have P1 : Keep (∀ w', Rd w' w'.heap.size A 32 .u8 b → Calls Try.prog 24 #[.slice A 32 c] w' fun e w'' => e = .returned (.tuple #[.agg (vals .u64 y), .int .i64 0]) ∧ Below w'.heap.size w' w'') := ⟨fun w' h => by
    have h1 := frFromBytes_ok A c b _ w' h hby (Nat.le_refl _) hp
    rw [hy] at h1
    exact h1⟩
  have A4 : Keep (∀ w : World, Calls Try.prog 28 #[.agg (vals .u64 y)] w fun e w' => e = .returned (.agg (vals .u8 b)) ∧ Below w.heap.size w w') := ⟨fun w => by
    have h1 := frBytes_c y (by rw [← hy]; exact fr_len _) (by rw [← hy]; exact fr_words _) w
    rw [← hy, fr_num, oct_fr hby hr.len (by omega)] at h1
    rw [← hy]
    exact h1⟩
  have hgd := gd4
  have La : Keep (a.length = 4) := ⟨hla⟩
  have Va : Keep (Words a) := ⟨hwa⟩
  have LZ : Keep (Z4.length = 4) := ⟨rfl⟩
  have LM : Keep (mL.length = 4) := ⟨rfl⟩
  obtain ⟨S, hS⟩ : ∃ S, w.heap.size = S := ⟨_, rfl⟩
  have qa0 : Has (w.alloc (.cells (vals .u64 a) 25)) (S) 25 (vals .u64 a) := by exact (Has.new' _ hS.symm _ _)
  have hb0 : Below S w (w.alloc (.cells (vals .u64 a) 25)) := by rw [← hS]; exact ((Below.refl _ _).alloc (Nat.le_refl _) _)
  have hsz0 : (w.alloc (.cells (vals .u64 a) 25)).heap.size = S + 1 := by simp only [World.size_alloc, hS]
  have HS0 : Keep (S ≤ w.heap.size) := ⟨by omega⟩
  have HSS : Keep (∀ x : World, Below S w x → S ≤ x.heap.size) := ⟨fun x hb => Nat.le_trans HS0.out hb.size⟩
  rw [hS]
  have HRD : Keep (∀ x : World, Below S w x → Rd x x.heap.size A 32 .u8 b) := ⟨fun x hb => (hr.keep hb (by omega)).more (by have := HSS.out _ hb; omega)⟩
  clear hx hs hxr bs ns hr hby hy hp
  clear hla hwa
  go_enter Try.func10, Try.ntmps10
  go_wp2_with (first
    | (refine store_abs2 (by rfl) 25 (.tmp 9) (.tmp 21) (by rfl) (by rfl) (w6.heap.size) (vals .u64 mL) (by rfl) (by rfl) 25 (vals .u64 Z4) (Has.new' _ rfl _ _) (by rw [vals_size, LM.out]; kernel_rfl) (by first | rfl | (rw [vals_size, vals_size, LM.out]; rfl)) vals_one ?_
       intro w7 qm7 hkeep hbg
       have hbe := ((Below.refl (w6).heap.size (w6)).alloc (Nat.le_refl _) (.cells (vals .u64 Z4) 25)).trans hbg
       have Nam : Keep (S < w6.heap.size) := ⟨qa6.lt⟩
       have Nsm : Keep (w2.heap.size < w6.heap.size) := ⟨qs6.lt⟩
       have Nxm : Keep (w4.heap.size < w6.heap.size) := ⟨qx6.lt⟩
       have Mm : Keep (S ≤ w6.heap.size) := ⟨HSS.out _ hb6⟩
       have qa7 := qa6.keep hbe
       have qs7 := qs6.keep hbe
       have qx7 := qx6.keep hbe
       have hb7 := hb6.trans (hbe.mono (HSS.out _ hb6))
       clear hkeep hbg hbe hb6 qa6 qs6 qx6)
    | (have hq0 := hb5
       clear hq0
       go_at_call 12
       refine (A3.out _).mono ?_
       rintro e w6 ⟨rfl, hq⟩
       have qa6 := qa5.keep hq
       have qs6 := qs5.keep hq
       have qx6 := qx5.keep hq
       have hb6 := hb5.trans (hq.mono (HSS.out _ hb5))
       clear hq hb5 qa5 qs5 qx5)
    | (refine store_abs2 (by rfl) 25 (.tmp 7) (.tmp 19) (by rfl) (by rfl) (w4.heap.size) (vals .u64 x) (by rfl) (by rfl) 25 (vals .u64 Z4) (Has.new' _ rfl _ _) (by rw [vals_size, Lx.out]; kernel_rfl) (by first | rfl | (rw [vals_size, vals_size, Lx.out]; rfl)) vals_one ?_
       intro w5 qx5 hkeep hbg
       have hbe := ((Below.refl (w4).heap.size (w4)).alloc (Nat.le_refl _) (.cells (vals .u64 Z4) 25)).trans hbg
       have Nax : Keep (S < w4.heap.size) := ⟨qa4.lt⟩
       have Nsx : Keep (w2.heap.size < w4.heap.size) := ⟨qs4.lt⟩
       have Mx : Keep (S ≤ w4.heap.size) := ⟨HSS.out _ hb4⟩
       have qa5 := qa4.keep hbe
       have qs5 := qs4.keep hbe
       have hb5 := hb4.trans (hbe.mono (HSS.out _ hb4))
       clear hkeep hbg hbe hb4 qa4 qs4)
    | (have hq0 := hb3
       clear hq0
       go_at_call 24
       refine (P0.out _ _ qs3).mono ?_
       rintro e w4 ⟨rfl, hq⟩
       have qa4 := qa3.keep hq
       have qs4 := qs3.keep hq
       have hb4 := hb3.trans (hq.mono (HSS.out _ hb3))
       clear hq hb3 qa3 qs3)
    | (refine store_abs2 (by rfl) 36 (.tmp 6) (.tmp 15) (by rfl) (by rfl) (w2.heap.size) (vals .u8 s) (by rfl) (by rfl) 36 (vals .u8 (List.replicate 32 0)) (Has.new' _ rfl _ _) (by rw [vals_size, Ls.out]; kernel_rfl) (by first | rfl | (rw [vals_size, vals_size, Ls.out]; rfl)) vals_one ?_
       intro w3 qs3 hkeep hbg
       have hbe := ((Below.refl (w2).heap.size (w2)).alloc (Nat.le_refl _) (.cells (vals .u8 (List.replicate 32 0)) 36)).trans hbg
       have Nas : Keep (S < w2.heap.size) := ⟨qa2.lt⟩
       have Ms : Keep (S ≤ w2.heap.size) := ⟨HSS.out _ hb2⟩
       have qa3 := qa2.keep hbe
       have hb3 := hb2.trans (hbe.mono (HSS.out _ hb2))
       clear hkeep hbg hbe hb2 qa2)
    | (have hq0 := hb1
       clear hq0
       go_at_call 28
       refine (A1.out _).mono ?_
       rintro e w2 ⟨rfl, hq⟩
       have qa2 := qa1.keep hq
       have hb2 := hb1.trans (hq.mono (HSS.out _ hb1))
       clear hq hb1 qa1)
    | (refine wpList_load_row rfl 25 (.tmp 2) rfl (S) rfl _ _ _ _ qa1.eq Try.underlying25 rfl (by rw [vals_size, La.out]; kernel_rfl) ?_)
    | (have hq0 := hb0
       clear hq0
       go_at_call 11
       refine (awake_c _).mono ?_
       rintro e w1 ⟨rfl, hq⟩
       have qa1 := qa0.keep hq
       have hb1 := hb0.trans (hq.mono (HSS.out _ hb0))
       clear hq hb0 qa0))
  have R6 := fun w' (h : Below w7.heap.size w7 w') => P6.out w' _ (qs7.keep h)
  have R6' : Keep _ := ⟨R6⟩
  clear R6
  have R7 := fun w' (h : Below w7.heap.size w7 w') => P7.out w' _ _ (qx7.keep h) (qm7.keep h)
  have R7' : Keep _ := ⟨R7⟩
  clear R7
  refine wp_fam_all (by kernel_rfl) (by kernel_rfl) (fun I hI' fw hf hback => ?_)
  repeat (first
    | (go_big_quiet_want
       refine quiet_load_seg 25 (.tmp 2) (by rfl) (S) 0 4 (by rfl) 25 .u64 a a _ (fun w' ⟨i, hi⟩ => by rw [hi]; exact qa7.keep (hf i)) Try.underlying25 rfl (by kernel_rfl) (by rw [List.drop_zero, take_all La.out]) (by rw [La.out]; omega) ?_
       simp only [Act.put, List.setIfInBounds_toArray, List.set_cons_zero, List.set_cons_succ]
       go_big_quiet_on)
    | (go_big_quiet_want
       refine quiet_load_seg 25 (.tmp 7) (by rfl) (w4.heap.size) 0 4 (by rfl) 25 .u64 x x _ (fun w' ⟨i, hi⟩ => by rw [hi]; exact qx7.keep (hf i)) Try.underlying25 rfl (by kernel_rfl) (by rw [List.drop_zero, take_all Lx.out]) (by rw [Lx.out]; omega) ?_
       simp only [Act.put, List.setIfInBounds_toArray, List.set_cons_zero, List.set_cons_succ]
       go_big_quiet_on)
    | go_big_quiet_step (first | fail | (go_at_call 14; with_reducible exact calls_fam hf hback (A2.out _)) | (go_at_call 26; with_reducible exact calls_fam hf hback (R6'.out _ (hf _))) | (go_at_call 36; with_reducible exact calls_fam hf hback (R7'.out _ (hf _)))))
  refine wpQuiet_nil ?_
  intro w8 hq
  have qa8 := qa7.keep hq
  have qs8 := qs7.keep hq
  have qx8 := qx7.keep hq
  have qm8 := qm7.keep hq
  have hb8 := hb7.trans (hq.mono (HSS.out _ hb7))
  clear hf hback hq hb7 qa7 qs7 qx7 qm7 
  go_wp2_with (first
    | (refine store_abs2 (by rfl) 36 (.tmp 12) (.tmp 64) (by rfl) (by rfl) (w11.heap.size) (vals .u8 b) (by rfl) (by rfl) 36 (vals .u8 (List.replicate 32 0)) (Has.new' _ rfl _ _) (by rw [vals_size, Lb.out]; kernel_rfl) (by first | rfl | (rw [vals_size, vals_size, Lb.out]; rfl)) vals_one ?_
       intro w12 qo12 hkeep hbg
       have hbe := ((Below.refl (w11).heap.size (w11)).alloc (Nat.le_refl _) (.cells (vals .u8 (List.replicate 32 0)) 36)).trans hbg
       have Nao : Keep (S < w11.heap.size) := ⟨qa11.lt⟩
       have Nso : Keep (w2.heap.size < w11.heap.size) := ⟨qs11.lt⟩
       have Nxo : Keep (w4.heap.size < w11.heap.size) := ⟨qx11.lt⟩
       have Nmo : Keep (w6.heap.size < w11.heap.size) := ⟨qm11.lt⟩
       have Nyo : Keep (w9.heap.size < w11.heap.size) := ⟨qy11.lt⟩
       have Mo : Keep (S ≤ w11.heap.size) := ⟨HSS.out _ hb11⟩
       have qa12 := qa11.keep hbe
       have qs12 := qs11.keep hbe
       have qx12 := qx11.keep hbe
       have qm12 := qm11.keep hbe
       have qy12 := qy11.keep hbe
       have hb12 := hb11.trans (hbe.mono (HSS.out _ hb11))
       clear hkeep hbg hbe hb11 qa11 qs11 qx11 qm11 qy11)
    | (have hq0 := hb10
       clear hq0
       go_at_call 28
       refine (A4.out _).mono ?_
       rintro e w11 ⟨rfl, hq⟩
       have qa11 := qa10.keep hq
       have qs11 := qs10.keep hq
       have qx11 := qx10.keep hq
       have qm11 := qm10.keep hq
       have qy11 := qy10.keep hq
       have hb11 := hb10.trans (hq.mono (HSS.out _ hb10))
       clear hq hb10 qa10 qs10 qx10 qm10 qy10)
    | (refine wpList_load_row rfl 25 (.tmp 10) rfl (w9.heap.size) rfl _ _ _ _ qy10.eq Try.underlying25 rfl (by rw [vals_size, Ly.out]; kernel_rfl) ?_)
    | (refine store_abs2 (by rfl) 25 (.tmp 10) (.tmp 45) (by rfl) (by rfl) (w9.heap.size) (vals .u64 y) (by rfl) (by rfl) 25 (vals .u64 Z4) (Has.new' _ rfl _ _) (by rw [vals_size, Ly.out]; kernel_rfl) (by first | rfl | (rw [vals_size, vals_size, Ly.out]; rfl)) vals_one ?_
       intro w10 qy10 hkeep hbg
       have hbe := ((Below.refl (w9).heap.size (w9)).alloc (Nat.le_refl _) (.cells (vals .u64 Z4) 25)).trans hbg
       have Nay : Keep (S < w9.heap.size) := ⟨qa9.lt⟩
       have Nsy : Keep (w2.heap.size < w9.heap.size) := ⟨qs9.lt⟩
       have Nxy : Keep (w4.heap.size < w9.heap.size) := ⟨qx9.lt⟩
       have Nmy : Keep (w6.heap.size < w9.heap.size) := ⟨qm9.lt⟩
       have My : Keep (S ≤ w9.heap.size) := ⟨HSS.out _ hb9⟩
       have qa10 := qa9.keep hbe
       have qs10 := qs9.keep hbe
       have qx10 := qx9.keep hbe
       have qm10 := qm9.keep hbe
       have hb10 := hb9.trans (hbe.mono (HSS.out _ hb9))
       clear hkeep hbg hbe hb9 qa9 qs9 qx9 qm9)
    | (have hq0 := hb8
       clear hq0
       go_at_call 24
       refine (P1.out _ (HRD.out _ hb8)).mono ?_
       rintro e w9 ⟨rfl, hq⟩
       have qa9 := qa8.keep hq
       have qs9 := qs8.keep hq
       have qx9 := qx8.keep hq
       have qm9 := qm8.keep hq
       have hb9 := hb8.trans (hq.mono (HSS.out _ hb8))
       clear hq hb8 qa8 qs8 qx8 qm8))
  have xr := HRD.out _ hb12
  obtain ⟨b1, o1, rfl, hlb1, hc1⟩ := xr.at_ (by omega)
  refine wp_fam_all (by kernel_rfl) (by kernel_rfl) (fun I hI' fw hf hback => ?_)
  have c1 : ∀ j, (convert 31 9 (.slice (some ⟨w11.heap.size, 0, none⟩) 32 32)).run Try.prog (fw j) = .ok (.string (strOfNums b)) (fw j) := fun j => run_convert_bytes_arg (fw j) _ _ Try.underlying31 Try.underlying5 _ _ _ _ b Lb.out (fun i hi => by rw [Nat.zero_add]; exact (qo12.keep (hf j)).val (by rw [Lb.out]; exact hi)) _ Try.underlying9
  have c2 : ∀ j, (convert 31 9 (.slice (some ⟨b1, o1, none⟩) 32 c)).run Try.prog (fw j) = .ok (.string (strOfNums b)) (fw j) := fun j => run_convert_bytes_arg (fw j) _ _ Try.underlying31 Try.underlying5 _ _ _ _ b Lb.out (fun i hi => ((hf j).cell (p := ⟨b1, o1 + i, none⟩) hlb1).trans (hc1 i hi)) _ Try.underlying9
  repeat (go_big_quiet_step (fail))
  refine wpQuiet_nil ?_
  intro w13 hq
  have hb13 := hb12.trans (hq.mono (HSS.out _ hb12))
  clear c1 c2 hf hback
  go_wp2
  go_ret
  exact ⟨rfl, hb13⟩

theorem back_w (a : List Int) (hla : a.length = 4) (hwa : Words a) (A : Option Addr) (n c : Nat) (b : List Int) (w : World) (h : Rd w w.heap.size A n .u8 b ∧ Bytes b) : Calls Try.prog 10 #[.agg (vals .u64 a), .slice A n c] w fun e w' => e = .returned (.bool true) ∧ Below w.heap.size w w' := by
  by_cases hn : n = 32
  · by_cases hp : RR ≤ bnum b
    · exact back_range a hla hwa A n c b w h.1 h.2 hn hp
    · exact back_ok a hla hwa A n c b w h.1 h.2 hn hp
  · exact back_len a hla hwa A n c b w h.1 h.2 hn

end Go.Proofs.Ythaoebamnlmfpaa.Fr
