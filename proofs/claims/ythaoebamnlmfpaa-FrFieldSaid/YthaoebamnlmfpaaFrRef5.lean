/-
  Own text. The contracts of layer 6's reference: R1, Neg, FromOctets.
-/
import Derived.Test.YthaoebamnlmfpaaFrRef4
import Derived.Test.YthaoebamnlmfpaaRegC
namespace Go.Proofs.Ythaoebamnlmfpaa.Fr
set_option linter.unusedVariables false
set_option linter.unusedSimpArgs false
open Go Go.RowKit Go.Proofs.Ythaoebamnlmfpaa.Num Go.Proofs.Ythaoebamnlmfpaa.Reg Go.Proofs.Ythaoebamnlmfpaa.Base Go.Proofs.Ythaoebamnlmfpaa.Limb Go.Proofs.Ythaoebamnlmfpaa.Bits

theorem num_wordsL_ {b : List Int} (hb : Bytes b) : num (wordsL b) = bnum b := by
  have h := bn_bounds hb b.length
  rw [wordsL, bnum]
  refine num_wd_of h.1 (Int.lt_of_lt_of_le h.2 ?_)
  rw [← tp_wp, tp, tp]
  exact Int.ofNat_le.2 (Nat.pow_le_pow_right (by decide) (by omega) : (2 : Nat) ^ (8 * b.length) ≤ 2 ^ (64 * ((b.length + 7) / 8))) |> fun h => by simpa using h
def eL : List Int := [18446744069414584319, 6034159408538082302, 3691218898639771653, 8353516859464449352]
theorem eL_num : num eL = RR - 2 := by decide +kernel
theorem eL_words : Words eL := words_of _ (by decide)
theorem sub_eL : subL mL [2] = eL := by decide +kernel

set_option maxRecDepth 100000 in
set_option maxHeartbeats 2000000 in
theorem refR1_c (w : World) : Calls Try.prog 42 #[] w fun e w' => ∃ A c, e = .returned (.slice A 4 c) ∧ Own w' w.heap.size 23 .u64 A 4 c mL ∧ Below w.heap.size w w' := by
  have LZ : Keep (Z4.length = 4) := ⟨rfl⟩
  have LM : Keep (mL.length = 4) := ⟨rfl⟩
  obtain ⟨S, hS⟩ : ∃ S, w.heap.size = S := ⟨_, rfl⟩
  have hsz0 : w.heap.size = S + 0 := hS
  have hb0 : Below S w w := Below.refl _ _
  have HSS : Keep (∀ x : World, Below S w x → S ≤ x.heap.size) := ⟨fun x hb => by have := hb.size; omega⟩
  rw [hS]
  go_enter Try.func42, Try.ntmps42
  go_wp2_with (first
    | (refine append_abs (by rfl) (.tmp 3) (.tmp 4) 39 (by rfl) S 23 .u64 8 Try.underlying39 u64Elem (some ⟨w2.heap.size, 0, none⟩) 0 0 [] (by rfl) (Own.of_has (Has.new w2 23 (vals .u64 [])) (HSS.out _ hb2) (Nat.zero_le _)) w2.heap.size (some ⟨w1.heap.size, 0, none⟩) 4 4 mL (by rfl) (Rd.of_has (qm2.keep ((Below.refl w2.heap.size w2).alloc (Nat.le_refl _) _)) qm2.lt (by rfl) (by decide)) 4 (by rfl) mL (by rfl) (by omega) (by unfold maxLen; omega) (by have := HSS.out _ hb2; simp; omega) ?_
       intro A5 c5 w5 ho5 hbx
       have hb5 := (hb2.alloc (HSS.out _ hb2) (.cells (vals .u64 []) 23)).trans hbx
       clear hbx hb2 qm2)
    | (refine store_abs2 (by rfl) 25 (.tmp 1) (.tmp 2) (by rfl) (by rfl) (w1.heap.size) (vals .u64 mL) (by rfl) (by rfl) 25 (vals .u64 Z4) (Has.new' _ rfl _ _) (by rw [vals_size, LM.out]; kernel_rfl) (by first | rfl | (rw [vals_size, vals_size, LM.out]; rfl)) vals_one ?_
       intro w2 qm2 hkeep hbg
       have hbe := ((Below.refl (w1).heap.size (w1)).alloc (Nat.le_refl _) (.cells (vals .u64 Z4) 25)).trans hbg
       have Mm : Keep (S ≤ w1.heap.size) := ⟨HSS.out _ hb1⟩
       have hb2 := hb1.trans (hbe.mono (HSS.out _ hb1))
       clear hkeep hbg hbe hb1 )
    | (have hq0 := hb0
       clear hq0
       go_at_call 13
       refine (refR_c _).mono ?_
       rintro e w1 ⟨rfl, hq⟩
       have hb1 := hb0.trans (hq.mono (HSS.out _ hb0))
       clear hq hb0 ))
  go_ret
  exact ⟨_, _, rfl, ho5, hb5⟩

set_option maxRecDepth 100000 in
set_option maxHeartbeats 2000000 in
theorem refNeg_c4 (a : List Int) (hla : a.length = 4) (hwa : Words a) (w : World) : Calls Try.prog 19 #[.agg (vals .u64 a)] w fun e w' => e = .returned (.agg (vals .u64 (fr (-num a)))) ∧ Below w.heap.size w w' := by
  have P1 : Keep (∀ x : World, _) := ⟨fun x => refReduce_c a hla hwa x⟩
  have wx : Words (fr (num a)) := fr_words _
  have hxn : num (fr (num a)) = num a % RR := num_fr _
  obtain ⟨x, hx⟩ : ∃ o, fr (num a) = o := ⟨_, rfl⟩
  have Lx : Keep (x.length = 4) := ⟨by rw [← hx]; exact fr_len _⟩
  obtain ⟨r, hr⟩ : ∃ o, fr (-num a) = o := ⟨_, rfl⟩
  have Lr : Keep (r.length = 4) := ⟨by rw [← hr]; exact fr_len _⟩
  rw [hx] at P1 wx hxn
  have hsub : subL mL x = wd 4 (RR - num x) := by rw [subL, Lx.out, num_mL]; rfl
  have hfr : fr (num (subL mL x)) = r := by
    have hb := fr_mod (num a)
    have hp := RR_lt
    rw [hsub, num_wd_of (by omega) (by omega), ← hr]
    exact fr_congr (by rw [hxn, show RR - num a % RR = -num a + RR * (num a / RR + 1) by rw [Int.mul_add, Int.mul_one]; have := Int.mul_ediv_add_emod (num a) RR; omega, Int.add_mul_emod_self_left])
  obtain ⟨d, hd⟩ : ∃ d, subL mL x = d := ⟨_, rfl⟩
  have wd_ : Words d := by rw [← hd, hsub]; exact wd_words _ _
  rw [hd] at hfr
  have P2 : Keep (∀ (y : World) (g g' : Nat), Has y g 25 (vals .u64 mL) → Has y g' 25 (vals .u64 x) → Calls Try.prog 40 #[.slice (some ⟨g, 0, none⟩) 4 4, .slice (some ⟨g', 0, none⟩) 4 4] y fun e y' => ∃ A'' c'', e = .returned (.tuple #[.slice A'' 4 c'', .int .u64 (subC mL x)]) ∧ Own y' y.heap.size 23 .u64 A'' 4 c'' d ∧ Below y.heap.size y y') := ⟨fun y g g' h h' => by
    have h1 := refSub_c (some ⟨g, 0, none⟩) 4 4 mL (some ⟨g', 0, none⟩) 4 4 x y.heap.size y (Rd.of_has h h.lt (by rfl) (by decide)) mL_words (Rd.of_has h' h'.lt (by rw [List.drop_zero, take_all Lx.out]) (by rw [Lx.out]; omega)) wx (Nat.le_refl _) (by omega) (by omega)
    rw [hd, Nat.max_self] at h1
    exact h1⟩
  have P3 : Keep (∀ (y : World) (A : Option Addr) (c : Nat), Rd y y.heap.size A 4 .u64 d → Calls Try.prog 41 #[.slice A 4 c] y fun e y' => e = .returned (.agg (vals .u64 r)) ∧ Below y.heap.size y y') := ⟨fun y A c h => by
    have h1 := refWide_c4 A 4 c d y.heap.size y h wd_ (Nat.le_refl _) (by omega)
    rw [hfr] at h1
    exact h1⟩
  rw [hr]
  have La : Keep (a.length = 4) := ⟨hla⟩
  have Va : Keep (Words a) := ⟨hwa⟩
  have LZ : Keep (Z4.length = 4) := ⟨rfl⟩
  have LM : Keep (mL.length = 4) := ⟨rfl⟩
  obtain ⟨S, hS⟩ : ∃ S, w.heap.size = S := ⟨_, rfl⟩
  have qa0 : Has ((w.alloc (.cells (vals .u64 a) 25)).alloc (.cells (vals .u64 Z4) 25)) (S) 25 (vals .u64 a) := by exact ((Has.new' _ hS.symm _ _).alloc _)
  have qo0 : Has ((w.alloc (.cells (vals .u64 a) 25)).alloc (.cells (vals .u64 Z4) 25)) (S + 1) 25 (vals .u64 Z4) := by exact (Has.new' _ (by simp only [World.size_alloc, hS]) _ _)
  have hb0 : Below S w ((w.alloc (.cells (vals .u64 a) 25)).alloc (.cells (vals .u64 Z4) 25)) := by rw [← hS]; exact (((Below.refl _ _).alloc (Nat.le_refl _) _).alloc (by simp <;> omega) _)
  have hsz0 : ((w.alloc (.cells (vals .u64 a) 25)).alloc (.cells (vals .u64 Z4) 25)).heap.size = S + 2 := by simp only [World.size_alloc, hS]
  have HS0 : Keep (S ≤ w.heap.size) := ⟨by omega⟩
  have HSS : Keep (∀ x : World, Below S w x → S ≤ x.heap.size) := ⟨fun x hb => Nat.le_trans HS0.out hb.size⟩
  rw [hS]
  clear hx hr hd hsub hfr wd_ wx hxn
  clear hla hwa
  go_enter Try.func19, Try.ntmps19
  go_wp2_with (first
    | (refine store_abs2 (by rfl) 25 (.tmp 4) (.tmp 9) (by rfl) (by rfl) (w3.heap.size) (vals .u64 x) (by rfl) (by rfl) 25 (vals .u64 Z4) (Has.new' _ rfl _ _) (by rw [vals_size, Lx.out]; kernel_rfl) (by first | rfl | (rw [vals_size, vals_size, Lx.out]; rfl)) vals_one ?_
       intro w4 qx4 hkeep hbg
       have hbe := ((Below.refl (w3).heap.size (w3)).alloc (Nat.le_refl _) (.cells (vals .u64 Z4) 25)).trans hbg
       have Nax : Keep (S < w3.heap.size) := ⟨qa3.lt⟩
       have Nox : Keep (S + 1 < w3.heap.size) := ⟨qo3.lt⟩
       have Nmx : Keep (w1.heap.size < w3.heap.size) := ⟨qm3.lt⟩
       have Mx : Keep (S ≤ w3.heap.size) := ⟨HSS.out _ hb3⟩
       have qa4 := qa3.keep hbe
       have qo4 := qo3.keep hbe
       have qm4 := qm3.keep hbe
       have hb4 := hb3.trans (hbe.mono (HSS.out _ hb3))
       clear hkeep hbg hbe hb3 qa3 qo3 qm3)
    | (have hq0 := hb2
       clear hq0
       go_at_call 15
       refine (P1.out _).mono ?_
       rintro e w3 ⟨rfl, hq⟩
       have qa3 := qa2.keep hq
       have qo3 := qo2.keep hq
       have qm3 := qm2.keep hq
       have hb3 := hb2.trans (hq.mono (HSS.out _ hb2))
       clear hq hb2 qa2 qo2 qm2)
    | (refine wpList_load_row rfl 25 (.tmp 1) rfl (S) rfl _ _ _ _ qa2.eq Try.underlying25 rfl (by rw [vals_size, La.out]; kernel_rfl) ?_)
    | (refine store_abs2 (by rfl) 25 (.tmp 3) (.tmp 7) (by rfl) (by rfl) (w1.heap.size) (vals .u64 mL) (by rfl) (by rfl) 25 (vals .u64 Z4) (Has.new' _ rfl _ _) (by rw [vals_size, LM.out]; kernel_rfl) (by first | rfl | (rw [vals_size, vals_size, LM.out]; rfl)) vals_one ?_
       intro w2 qm2 hkeep hbg
       have hbe := ((Below.refl (w1).heap.size (w1)).alloc (Nat.le_refl _) (.cells (vals .u64 Z4) 25)).trans hbg
       have Nam : Keep (S < w1.heap.size) := ⟨qa1.lt⟩
       have Nom : Keep (S + 1 < w1.heap.size) := ⟨qo1.lt⟩
       have Mm : Keep (S ≤ w1.heap.size) := ⟨HSS.out _ hb1⟩
       have qa2 := qa1.keep hbe
       have qo2 := qo1.keep hbe
       have hb2 := hb1.trans (hbe.mono (HSS.out _ hb1))
       clear hkeep hbg hbe hb1 qa1 qo1)
    | (have hq0 := hb0
       clear hq0
       go_at_call 13
       refine (refR_c _).mono ?_
       rintro e w1 ⟨rfl, hq⟩
       have qa1 := qa0.keep hq
       have qo1 := qo0.keep hq
       have hb1 := hb0.trans (hq.mono (HSS.out _ hb0))
       clear hq hb0 qa0 qo0))
  refine wp_one [0, 1] 2 (by kernel_rfl) (by rfl) (by kernel_rfl) (by kernel_rfl) (fun _ _ d _ _ h => by cases d <;> exact h) ?_
  simp only [List.filterMap_cons, List.filterMap_nil, List.getElem?_cons_zero, List.getElem?_cons_succ]
  refine ⟨_, Or.inl ⟨by rfl, fun w => (by go_simp; with_reducible rfl)⟩, ?_⟩
  simp only [Act.put, List.setIfInBounds_toArray, List.set_cons_zero, List.set_cons_succ]
  refine ⟨_, Or.inl ⟨by rfl, fun w => (by go_simp; with_reducible rfl)⟩, ?_⟩
  simp only [Act.put, List.setIfInBounds_toArray, List.set_cons_zero, List.set_cons_succ]
  refine ⟨_, rfl, ?_⟩
  refine wpList_own (by rfl) ?_
  have hbd : Below w4.heap.size w4 w4.drew := ⟨rfl, rfl, rfl, Nat.le_refl _, fun _ _ => rfl⟩
  have qa5 := qa4.keep hbd
  have qo5 := qo4.keep hbd
  have qm5 := qm4.keep hbd
  have qx5 := qx4.keep hbd
  have hb5 := hb4.trans (hbd.mono (HSS.out _ hb4))
  clear hbd hb4 qa4 qo4 qm4 qx4
  generalize w4.drew = w5 at *
  go_wp2_with (first
    | (have hq0 := hb5
       clear hq0
       go_at_call 40
       refine (P2.out _ _ _ qm5 qx5).mono ?_
       rintro e w6 ⟨A3, c3, rfl, ho, hq⟩
       have qa6 := qa5.keep hq
       have qo6 := qo5.keep hq
       have qm6 := qm5.keep hq
       have qx6 := qx5.keep hq
       have hb6 := hb5.trans (hq.mono (HSS.out _ hb5))
       have xd6 := ho.rd
       clear hq hb5 qa5 qo5 qm5 qx5))
  simp only [quietThen, List.drop_succ_cons, List.drop_zero]
  intro I hI' fw hf hback
  repeat (go_big_quiet_step (fail))
  refine wpQuiet_nil ?_
  intro w7 hq
  have qa7 := qa6.keep hq
  have qo7 := qo6.keep hq
  have qm7 := qm6.keep hq
  have qx7 := qx6.keep hq
  have xd7 := rd_here xd6 hq
  have hb7 := hb6.trans (hq.mono (HSS.out _ hb6))
  clear hf hback hq ho hb6 qa6 qo6 qm6 qx6 xd6
  go_wp2_with (first
    | (refine store_abs2 (by rfl) 25 (.tmp 2) (.tmp 17) (by rfl) (by rfl) (S + 1) (vals .u64 r) (by rfl) (by rfl) 25 _ qo8 (by rw [vals_size, Lr.out]; kernel_rfl) (by first | rfl | (rw [vals_size, vals_size, Lr.out]; rfl) | rw [vals_size, vals_size, Lr.out, LZ.out]) vals_one ?_
       intro w9 qo9 hkeep hbg
       have qa9 := hkeep _ _ _ qa8 (by omega)
       have qm9 := hkeep _ _ _ qm8 (Nat.ne_of_gt Nom.out)
       have qx9 := hkeep _ _ _ qx8 (Nat.ne_of_gt Nox.out)
       have hb9 := hb8.trans (hbg.mono (by omega))
       clear hkeep hbg hb8 qa8 qo8 qm8 qx8)
    | (have hq0 := hb7
       clear hq0
       go_at_call 41
       refine (P3.out _ _ _ xd7).mono ?_
       rintro e w8 ⟨rfl, hq⟩
       have qa8 := qa7.keep hq
       have qo8 := qo7.keep hq
       have qm8 := qm7.keep hq
       have qx8 := qx7.keep hq
       have xd8 := rd_here xd7 hq
       have hb8 := hb7.trans (hq.mono (HSS.out _ hb7))
       clear hq hb7 qa7 qo7 qm7 qx7 xd7))
  refine bodyPost_ret (v := .agg (vals .u64 r)) (results_cell_row rfl _ _ (S + 1) _ _ _ _ rfl qo9.eq Try.underlying25 rfl (by rw [vals_size, Lr.out]; kernel_rfl)) rfl ⟨rfl, hb9⟩

set_option maxRecDepth 100000 in
set_option maxHeartbeats 2000000 in
theorem refFromOctets_c (A : Option Addr) (n c : Nat) (l : List Int) (B : Nat) (w : World) (hr : Rd w B A n .u8 l) (hby : Bytes l) (hB : B ≤ w.heap.size) (hn : n ≤ 10000) : Calls Try.prog 27 #[.slice A n c] w fun e w' => e = .returned (.agg (vals .u64 (fr (bnum l)))) ∧ Below w.heap.size w w' := by
  have LZ : Keep (Z4.length = 4) := ⟨rfl⟩
  obtain ⟨r, hr_⟩ : ∃ o, fr (bnum l) = o := ⟨_, rfl⟩
  have Lr : Keep (r.length = 4) := ⟨by rw [← hr_]; exact fr_len _⟩
  have P1 : Keep (∀ y : World, Rd y y.heap.size A n .u8 l → Calls Try.prog 44 #[.slice A n c] y fun e y' => ∃ A'' c'', e = .returned (.slice A'' ((n + 7) / 8) c'') ∧ Own y' y.heap.size 23 .u64 A'' ((n + 7) / 8) c'' (wordsL l) ∧ Below y.heap.size y y') := ⟨fun y h => refWords_c A n c l y.heap.size y h hby (Nat.le_refl _) (by omega)⟩
  obtain ⟨m, hm⟩ : ∃ m, (n + 7) / 8 = m := ⟨_, rfl⟩
  have hmn : m ≤ 10000 := by omega
  rw [hm] at P1
  have P2 : Keep (∀ (y : World) (A : Option Addr) (c : Nat), Rd y y.heap.size A m .u64 (wordsL l) → Calls Try.prog 41 #[.slice A m c] y fun e y' => e = .returned (.agg (vals .u64 r)) ∧ Below y.heap.size y y') := ⟨fun y A c h => by
    have h1 := refWide_c4 A m c (wordsL l) y.heap.size y h (wd_words _ _) (Nat.le_refl _) hmn
    rw [num_wordsL_ hby, hr_] at h1
    exact h1⟩
  obtain ⟨v, hv⟩ : ∃ v, wordsL l = v := ⟨_, rfl⟩
  rw [hv] at P1 P2
  rw [hr_]
  obtain ⟨S, hS⟩ : ∃ S, w.heap.size = S := ⟨_, rfl⟩
  have qo0 : Has (w.alloc (.cells (vals .u64 Z4) 25)) (S) 25 (vals .u64 Z4) := by exact (Has.new' _ hS.symm _ _)
  have hb0 : Below S w (w.alloc (.cells (vals .u64 Z4) 25)) := by rw [← hS]; exact ((Below.refl _ _).alloc (Nat.le_refl _) _)
  have hsz0 : (w.alloc (.cells (vals .u64 Z4) 25)).heap.size = S + 1 := by simp only [World.size_alloc, hS]
  have HS0 : Keep (S ≤ w.heap.size) := ⟨by omega⟩
  have HSS : Keep (∀ x : World, Below S w x → S ≤ x.heap.size) := ⟨fun x hb => Nat.le_trans HS0.out hb.size⟩
  rw [hS]
  have HRD : Keep (∀ x : World, Below S w x → Rd x x.heap.size A n .u8 l) := ⟨fun x hb => (hr.keep hb (by omega)).more (Nat.le_trans hB (Nat.le_trans (by omega) (HSS.out _ hb)))⟩
  clear hr hby hB hn hr_ hm hmn hv
  go_enter Try.func27, Try.ntmps27
  go_wp2_with (first
    | (refine store_abs2 (by rfl) 25 (.tmp 2) (.tmp 5) (by rfl) (by rfl) (S) (vals .u64 r) (by rfl) (by rfl) 25 _ qo2 (by rw [vals_size, Lr.out]; kernel_rfl) (by first | rfl | (rw [vals_size, vals_size, Lr.out]; rfl) | rw [vals_size, vals_size, Lr.out, LZ.out]) vals_one ?_
       intro w3 qo3 hkeep hbg
       have hb3 := hb2.trans (hbg.mono (by omega))
       clear hkeep hbg hb2 qo2)
    | (have hq0 := hb1
       clear hq0
       go_at_call 41
       refine (P2.out _ _ _ xv1).mono ?_
       rintro e w2 ⟨rfl, hq⟩
       have qo2 := qo1.keep hq
       have xv2 := rd_here xv1 hq
       have hb2 := hb1.trans (hq.mono (HSS.out _ hb1))
       clear hq hb1 qo1 xv1)
    | (have hq0 := hb0
       clear hq0
       go_at_call 44
       refine (P1.out _ (HRD.out _ hb0)).mono ?_
       rintro e w1 ⟨A1, c1, rfl, ho, hq⟩
       have qo1 := qo0.keep hq
       have hb1 := hb0.trans (hq.mono (HSS.out _ hb0))
       have xv1 := ho.rd
       clear ho
       clear hq hb0 qo0))
  refine bodyPost_ret (v := .agg (vals .u64 r)) (results_cell_row rfl _ _ (S) _ _ _ _ rfl qo3.eq Try.underlying25 rfl (by rw [vals_size, Lr.out]; kernel_rfl)) rfl ⟨rfl, hb3⟩

end Go.Proofs.Ythaoebamnlmfpaa.Fr
