/-
  Own text. The walk of layer 4's statement that a number's power of p is itself.
-/
import Derived.Test.YtpkfknmpegieaaaDoorFpLaws3
import Derived.Test.YtpkfknmpegieaaaDoorLimbOwnB
import Derived.Test.YtpkfknmpegieaaaDoorMReg
namespace Go.Proofs.YtpkfknmpegieaaaDoor.Fp
set_option linter.unusedVariables false
set_option linter.unusedSimpArgs false
open Go Go.RowKit Go.Proofs.YtpkfknmpegieaaaDoor.Reg Go.Proofs.YtpkfknmpegieaaaDoor.Base Go.Proofs.YtpkfknmpegieaaaDoor.Limb Go.Proofs.YtpkfknmpegieaaaDoor.Bits

theorem one_word {x : Int} (h0 : 0 ≤ x) (h1 : x ≤ 18446744073709551615) : Words [x] ∧ num [x] = x := ⟨words_one h0 h1, by simp [num, low, nth, wp]⟩
theorem sum_two {e f : Int} (he0 : 0 ≤ e) (he1 : e ≤ 18446744073709551615) (hf0 : 0 ≤ f) (hf1 : f ≤ 18446744073709551615) : ∃ s c : Int, addL [e] [f] = [s] ∧ addC [e] [f] = c ∧ Words [s, c] ∧ num [s, c] = e + f := by
  have ne := (one_word he0 he1).2
  have nf := (one_word hf0 hf1).2
  refine ⟨(e + f) % 18446744073709551616, (e + f) / 18446744073709551616, ?_, ?_, ?_, ?_⟩
  · rw [addL, ne, nf]
    simp [wd, tab, wp]
  · rw [addC, ne, nf]
    simp [wp]
  · exact words_append (l := [(e + f) % 18446744073709551616]) (words_one (by omega) (by omega)) (words_one (by omega) (by omega))
  · have h := num_append [(e + f) % 18446744073709551616] [(e + f) / 18446744073709551616]
    rw [(one_word (by omega) (by omega)).2, (one_word (by omega) (by omega)).2] at h
    rw [List.singleton_append] at h
    rw [h]
    show (e + f) % 18446744073709551616 + 18446744073709551616 ^ 1 * ((e + f) / 18446744073709551616) = e + f
    omega

set_option maxRecDepth 100000 in
set_option maxHeartbeats 4000000 in
theorem fpFermat_w (a : List Int) (hla : a.length = 6) (hwa : Words a) (e f : Int) (he0 : 0 ≤ e) (he1 : e ≤ 18446744073709551615) (hf0 : 0 ≤ f) (hf1 : f ≤ 18446744073709551615) (w : World) (hG : GlobD w) : Calls Tryd.prog 11 #[.agg (vals .u64 a), .int .u64 e, .int .u64 f] w fun r w' => r = .returned (.bool true) ∧ Below w.heap.size w w' := by
  obtain ⟨s, c, hs, hc, hwsc, hnsc⟩ := sum_two he0 he1 hf0 hf1
  obtain ⟨hwe, hne⟩ := one_word he0 he1
  obtain ⟨hwf, hnf⟩ := one_word hf0 hf1
  obtain ⟨x, hx⟩ : ∃ o, fe (num a) = o := ⟨_, rfl⟩
  obtain ⟨pe, hpe⟩ : ∃ o, fe (pw (num a) e) = o := ⟨_, rfl⟩
  obtain ⟨pf, hpf⟩ : ∃ o, fe (pw (num a) f) = o := ⟨_, rfl⟩
  obtain ⟨ps, hps⟩ : ∃ o, fe (pw (num a) (e + f)) = o := ⟨_, rfl⟩
  have Lx : Keep (x.length = 6) := ⟨by rw [← hx]; exact fe_len _⟩
  have Lps : Keep (ps.length = 6) := ⟨by rw [← hps]; exact fe_len _⟩
  have LP : Keep (pL.length = 6) := ⟨rfl⟩
  have Ex := eq6 x Lx.out
  have Eps := eq6 ps Lps.out
  have E1 := eq6 [1, 0, 0, 0, 0, 0] rfl
  have P1 : Keep (∀ w' g g', Has w' g 23 (vals .u64 [e]) → Has w' g' 23 (vals .u64 [f]) → Calls Tryd.prog 41 #[.slice (some ⟨g, 0, none⟩) 1 1, .slice (some ⟨g', 0, none⟩) 1 1] w' fun r w'' => ∃ A'' c'', r = .returned (.tuple #[.slice A'' 1 c'', .int .u64 c]) ∧ Frs w'' w'.heap.size A'' 1 .u64 [s] ∧ Below w'.heap.size w' w'') := ⟨fun w' g g' h h' => by
    have h1 := add_c (some ⟨g, 0, none⟩) 1 1 [e] (some ⟨g', 0, none⟩) 1 1 [f] w'.heap.size w' (Rd.of_has h h.lt (by rfl) (by simp)) hwe (Rd.of_has h' h'.lt (by rfl) (by simp)) hwf (Nat.le_refl _) (by omega) (by omega)
    rw [hs, hc, Nat.max_self] at h1
    exact h1⟩
  have C1 : Keep (∀ w' g, Has w' g 25 (vals .u64 pL) → Glob w' → Calls Tryd.prog 33 #[.agg (vals .u64 a), .slice (some ⟨g, 0, none⟩) 6 6] w' fun r w'' => r = .returned (.agg (vals .u64 x)) ∧ Below w'.heap.size w' w'') := ⟨fun w' g h hG => by
    have h1 := fpPow_c a hla hwa (some ⟨g, 0, none⟩) 6 6 pL w'.heap.size w' hG (Rd.of_has h h.lt (by rw [List.drop_zero, take_all LP.out]) (by rw [LP.out]; omega)) pL_words (Nat.le_refl _) (by omega)
    rw [num_pL, fe_pw_p, hx] at h1
    exact h1⟩
  have C2 : Keep (∀ w : World, _) := ⟨fun w (hG : Glob w) => fpReduce_c a hla hwa w hG⟩
  rw [hx] at C2
  have C3 : Keep (∀ w' g, Has w' g 23 (vals .u64 [e]) → Glob w' → Calls Tryd.prog 33 #[.agg (vals .u64 a), .slice (some ⟨g, 0, none⟩) 1 1] w' fun r w'' => r = .returned (.agg (vals .u64 pe)) ∧ Below w'.heap.size w' w'') := ⟨fun w' g h hG => by
    have h1 := fpPow_c a hla hwa (some ⟨g, 0, none⟩) 1 1 [e] w'.heap.size w' hG (Rd.of_has h h.lt (by rfl) (by simp)) hwe (Nat.le_refl _) (by omega)
    rw [hne, hpe] at h1
    exact h1⟩
  have C4 : Keep (∀ w' g, Has w' g 23 (vals .u64 [f]) → Glob w' → Calls Tryd.prog 33 #[.agg (vals .u64 a), .slice (some ⟨g, 0, none⟩) 1 1] w' fun r w'' => r = .returned (.agg (vals .u64 pf)) ∧ Below w'.heap.size w' w'') := ⟨fun w' g h hG => by
    have h1 := fpPow_c a hla hwa (some ⟨g, 0, none⟩) 1 1 [f] w'.heap.size w' hG (Rd.of_has h h.lt (by rfl) (by simp)) hwf (Nat.le_refl _) (by omega)
    rw [hnf, hpf] at h1
    exact h1⟩
  have C5 : Keep (∀ w : World, Glob w → Calls Tryd.prog 29 #[.agg (vals .u64 pe), .agg (vals .u64 pf)] w fun r w' => r = .returned (.agg (vals .u64 ps)) ∧ Below w.heap.size w w') := ⟨fun w hG => by
    have h1 := fpMul_c pe (by rw [← hpe]; exact fe_len _) (by rw [← hpe]; exact fe_words _) pf (by rw [← hpf]; exact fe_len _) (by rw [← hpf]; exact fe_words _) w hG
    rw [← hpe, ← hpf, fe_mull, fe_mulr, ← pw_add he0 hf0, hps] at h1
    rw [← hpe, ← hpf]
    exact h1⟩
  have C6 : Keep (∀ w' A cA, Rd w' w'.heap.size A 2 .u64 [s, c] → Glob w' → Calls Tryd.prog 33 #[.agg (vals .u64 a), .slice A 2 cA] w' fun r w'' => r = .returned (.agg (vals .u64 ps)) ∧ Below w'.heap.size w' w'') := ⟨fun w' A cA h hG => by
    have h1 := fpPow_c a hla hwa A 2 cA [s, c] w'.heap.size w' hG h hwsc (Nat.le_refl _) (by omega)
    rw [hnsc, hps] at h1
    exact h1⟩
  have C7 : Keep (∀ w' : World, Glob w' → Calls Tryd.prog 33 #[.agg (vals .u64 a), .slice none 0 0] w' fun r w'' => r = .returned (.agg (vals .u64 [1, 0, 0, 0, 0, 0])) ∧ Below w'.heap.size w' w'') := ⟨fun w' hG => by
    have h1 := fpPow_c a hla hwa none 0 0 [] w'.heap.size w' hG Rd.nil_ words_nil (Nat.le_refl _) (by omega)
    rw [num_nil, pw_zero, fe_one] at h1
    exact h1⟩
  have hgd := gd6
  have HG : Keep (∀ x : World, Below w.heap.size w x → Glob x) := ⟨fun x h => hG.toGlob.keep h⟩
  have HD : Keep (∀ x : World, Below w.heap.size w x → GlobD x) := ⟨fun x h => hG.keep h⟩
  clear hG
  have qa0 : Has (w.alloc (.cells (vals .u64 a) 25)) (w.heap.size) 25 (vals .u64 a) := (Has.new _ _ _)
  have hb0 : Below w.heap.size w (w.alloc (.cells (vals .u64 a) 25)) := ((Below.refl _ _).alloc (by simp <;> omega) _)
  have La : Keep _ := ⟨hla⟩
  have Wa : Keep _ := ⟨hwa⟩
  clear hs hc hwsc hnsc hwe hne hwf hnf hx hpe hpf hps hla hwa
  go_enter Tryd.func11, Tryd.ntmps11
  go_wp2_with (first
    | (refine append_abs (by rfl) (.tmp 24) (.tmp 26) 30 (by rfl) w4.heap.size 23 .u64 8 Tryd.underlying30 u64Elem B5 1 d5 [s] (by rfl) (ho5.keep ((Below.refl _ _).alloc (Nat.le_refl _) _)) (v5.heap.size + 1) (some ⟨v5.heap.size, 0, none⟩) 1 1 [c] (by rfl) (Rd.of_has (Has.new v5 23 (vals .u64 [c])) (by omega) (by rfl) (by simp)) 2 (by rfl) [s, c] (by rfl) (by omega) (by unfold maxLen; omega) (by simp; omega) ?_
       intro A5 c5 w5 hoo hbx
       have hbe := (hby.alloc hby.size (.cells (vals .u64 [c]) 23)).trans hbx
       have q5a := qa4.keep hbe
       have q5p := qp4.keep hbe
       have hb5 := hb4.trans (hbe.mono hb4.size)
       have q5x := (Frs.of_own hoo).rd
       clear hoo hbx hby hbz ho5 hbe hb4 qa4 qp4)
    | (refine append_abs (by rfl) (.tmp 22) (.tmp 23) 30 (by rfl) w4.heap.size 23 .u64 8 Tryd.underlying30 u64Elem (some ⟨w4.heap.size, 0, none⟩) 0 0 [] (by rfl) (Own.of_has (Has.new w4 23 (vals .u64 [])) (Nat.le_refl _) (Nat.zero_le _)) w4.heap.size As 1 cs [s] (by rfl) (hF4.rd.keep ((Below.refl w4.heap.size w4).alloc (Nat.le_refl _) _) (Nat.le_refl _)) 1 (by rfl) [s] (by rfl) (by omega) (by unfold maxLen; omega) (by simp) ?_
       intro B5 d5 v5 ho5 hbx
       have hby := ((Below.refl w4.heap.size w4).alloc (Nat.le_refl _) (.cells (vals .u64 []) 23)).trans hbx
       have hbz := hby.size
       clear hbx)
    | (go_at_call 41
       refine (P1.out _ w3.heap.size (w3.heap.size + 1) ((Has.new w3 _ _).alloc _) (Has.new' _ (by simp) _ _)).mono ?_
       rintro r w4 ⟨As, cs, rfl, hF4, hq⟩
       have hbe := (((Below.refl w3.heap.size w3).alloc (Nat.le_refl _) (.cells (vals .u64 [e]) 23)).alloc (by simp) (.cells (vals .u64 [f]) 23)).trans (hq.mono (by simp; omega))
       have qa4 := qa3.keep hbe
       have qp4 := qp3.keep hbe
       have hb4 := hb3.trans (hbe.mono hb3.size)
       clear hq hbe hb3 qa3 qp3)
    | (refine store_abs2 (by rfl) 25 (.tmp 8) (.tmp 13) (by rfl) (by rfl) w2.heap.size (vals .u64 pL) (by rfl) (by rfl) 25 (vals .u64 Z6) (Has.new' _ rfl _ _) (by rw [vals_size, LP.out]; kernel_rfl) (by first | rfl | (rw [vals_size, vals_size, LP.out]; rfl)) vals_one ?_
       intro w3 qp3 hkeep hbg
       have hbe := ((Below.refl w2.heap.size w2).alloc (Nat.le_refl _) (.cells (vals .u64 Z6) 25)).trans hbg
       have qa3 := qa2.keep hbe
       have hb3 := hb2.trans (hbe.mono hb2.size)
       clear hkeep hbg hbe hb2 qa2)
    | (go_at_call 19
       refine (fpP_c _ (HG.out _ hb1)).mono ?_
       rintro e w2 ⟨rfl, hq⟩
       have qa2 := qa1.keep hq
       have hb2 := hb1.trans (hq.mono hb1.size)
       clear hq hb1 qa1)
    | (go_at_call 18
       refine (awake_c _ (HD.out _ hb0)).mono ?_
       rintro e w1 ⟨rfl, hq⟩
       have qa1 := qa0.keep hq
       have hb1 := hb0.trans (hq.mono hb0.size)
       clear hq hb0 qa0))
  have HG5 : Keep (∀ x : World, Below w5.heap.size w5 x → Glob x) := ⟨fun x h => HG.out _ (hb5.trans (h.mono hb5.size))⟩
  have hdr : Below w5.heap.size w5 w5.drew := ⟨rfl, rfl, rfl, Nat.le_refl _, fun _ _ => rfl⟩
  have HS : Keep (∀ w w' : World, Below w5.heap.size w5 w → Below w.heap.size w w' → Below w5.heap.size w5 w') := ⟨fun w w' h hb => below_tr h hb⟩
  refine wp_regionU (S := fun x => Below w5.heap.size w5 x) (by kernel_rfl) ?_
  change wpAnyU _ _ _ _ _ 31 _ _ _
  refine wpAnyU_take (i := 0) (v := _) HS.out (by rfl) (by kernel_rfl) (by kernel_rfl) (by kernel_rfl) (fun _ _ d _ _ h => by cases d <;> exact h) hdr (Steady.of_yields (Or.inl ⟨by rfl, fun w => (by go_simp; with_reducible rfl)⟩)) ?_
  simp only [List.getElem_toArray, List.getElem_cons_zero, List.getElem_cons_succ, Act.put, List.setIfInBounds_toArray, List.set_cons_zero, List.set_cons_succ]
  refine wpAnyU_take (i := 1) (v := _) HS.out (by rfl) (by kernel_rfl) (by kernel_rfl) (by kernel_rfl) (fun _ _ d _ _ h => by cases d <;> exact h) hdr (Steady.of_yields (Or.inl ⟨by rfl, fun w => (by go_simp; with_reducible rfl)⟩)) ?_
  simp only [List.getElem_toArray, List.getElem_cons_zero, List.getElem_cons_succ, Act.put, List.setIfInBounds_toArray, List.set_cons_zero, List.set_cons_succ]
  refine wpAnyU_take (i := 2) (v := _) HS.out (by rfl) (by kernel_rfl) (by kernel_rfl) (by kernel_rfl) (fun _ _ d _ _ h => by cases d <;> exact h) hdr (Steady.load_seg (by rfl) 25 (.tmp 3) (by rfl) (w.heap.size) 0 6 (by rfl) 25 .u64 a a _ (fun w hw => q5a.keep hw) Tryd.underlying25 rfl (by kernel_rfl) (by rw [List.drop_zero, take_all La.out]) (by rw [La.out]; omega)) ?_
  simp only [List.getElem_toArray, List.getElem_cons_zero, List.getElem_cons_succ, Act.put, List.setIfInBounds_toArray, List.set_cons_zero, List.set_cons_succ]
  refine wpAnyU_take (i := 3) (v := _) HS.out (by rfl) (by kernel_rfl) (by kernel_rfl) (by kernel_rfl) (fun _ _ d _ _ h => by cases d <;> exact h) hdr (Steady.of_yields (Or.inl ⟨by rfl, fun w => (by go_simp; with_reducible rfl)⟩)) ?_
  simp only [List.getElem_toArray, List.getElem_cons_zero, List.getElem_cons_succ, Act.put, List.setIfInBounds_toArray, List.set_cons_zero, List.set_cons_succ]
  refine wpAnyU_take (i := 4) (v := .agg (vals .u64 x)) HS.out (by rfl) (by kernel_rfl) (by kernel_rfl) (by kernel_rfl) (fun _ _ d _ _ h => by cases d <;> exact h) hdr (Or.inl ⟨by rfl, fun w hw => (by unfold Oper.quietAt; go_simp; exact C1.out _ _ (q5p.keep hw) (HG5.out _ hw))⟩) ?_
  simp only [List.getElem_toArray, List.getElem_cons_zero, List.getElem_cons_succ, Act.put, List.setIfInBounds_toArray, List.set_cons_zero, List.set_cons_succ]
  refine wpAnyU_take (i := 5) (v := _) HS.out (by rfl) (by kernel_rfl) (by kernel_rfl) (by kernel_rfl) (fun _ _ d _ _ h => by cases d <;> exact h) hdr (Steady.load_seg (by rfl) 25 (.tmp 3) (by rfl) (w.heap.size) 0 6 (by rfl) 25 .u64 a a _ (fun w hw => q5a.keep hw) Tryd.underlying25 rfl (by kernel_rfl) (by rw [List.drop_zero, take_all La.out]) (by rw [La.out]; omega)) ?_
  simp only [List.getElem_toArray, List.getElem_cons_zero, List.getElem_cons_succ, Act.put, List.setIfInBounds_toArray, List.set_cons_zero, List.set_cons_succ]
  refine wpAnyU_take (i := 6) (v := .agg (vals .u64 x)) HS.out (by rfl) (by kernel_rfl) (by kernel_rfl) (by kernel_rfl) (fun _ _ d _ _ h => by cases d <;> exact h) hdr (Or.inl ⟨by rfl, fun w hw => (by unfold Oper.quietAt; go_simp; exact C2.out _ (HG5.out _ hw))⟩) ?_
  simp only [List.getElem_toArray, List.getElem_cons_zero, List.getElem_cons_succ, Act.put, List.setIfInBounds_toArray, List.set_cons_zero, List.set_cons_succ]
  refine wpAnyU_take (i := 7) (v := .bool true) HS.out (by rfl) (by kernel_rfl) (by kernel_rfl) (by kernel_rfl) (fun _ _ d _ _ h => by cases d <;> exact h) hdr (Steady.of_yields (Or.inl ⟨by rfl, fun w => (by first | (go_simp; done) | (go_simp; with_reducible rfl))⟩)) ?_
  simp only [List.getElem_toArray, List.getElem_cons_zero, List.getElem_cons_succ, Act.put, List.setIfInBounds_toArray, List.set_cons_zero, List.set_cons_succ]
  refine wpAnyU_take (i := 8) (v := .bool true) HS.out (by rfl) (by kernel_rfl) (by kernel_rfl) (by kernel_rfl) (fun _ _ d _ _ h => by cases d <;> exact h) hdr (Steady.of_yields (Or.inl ⟨by rfl, fun w => (by first | (go_simp; done) | (go_simp; with_reducible rfl))⟩)) ?_
  simp only [List.getElem_toArray, List.getElem_cons_zero, List.getElem_cons_succ, Act.put, List.setIfInBounds_toArray, List.set_cons_zero, List.set_cons_succ]
  refine wpAnyU_take (i := 9) (v := .bool true) HS.out (by rfl) (by kernel_rfl) (by kernel_rfl) (by kernel_rfl) (fun _ _ d _ _ h => by cases d <;> exact h) hdr (Steady.of_yields (Or.inl ⟨by rfl, fun w => (by first | (go_simp; done) | (go_simp; with_reducible rfl))⟩)) ?_
  simp only [List.getElem_toArray, List.getElem_cons_zero, List.getElem_cons_succ, Act.put, List.setIfInBounds_toArray, List.set_cons_zero, List.set_cons_succ]
  refine wpAnyU_take (i := 10) (v := _) HS.out (by rfl) (by kernel_rfl) (by kernel_rfl) (by kernel_rfl) (fun _ _ d _ _ h => by cases d <;> exact h) hdr (Steady.load_seg (by rfl) 25 (.tmp 3) (by rfl) (w.heap.size) 0 6 (by rfl) 25 .u64 a a _ (fun w hw => q5a.keep hw) Tryd.underlying25 rfl (by kernel_rfl) (by rw [List.drop_zero, take_all La.out]) (by rw [La.out]; omega)) ?_
  simp only [List.getElem_toArray, List.getElem_cons_zero, List.getElem_cons_succ, Act.put, List.setIfInBounds_toArray, List.set_cons_zero, List.set_cons_succ]
  refine wpAnyU_take (i := 11) (v := _) HS.out (by rfl) (by kernel_rfl) (by kernel_rfl) (by kernel_rfl) (fun _ _ d _ _ h => by cases d <;> exact h) hdr (Steady.of_yields (Or.inl ⟨by rfl, fun w => (by go_simp; with_reducible rfl)⟩)) ?_
  simp only [List.getElem_toArray, List.getElem_cons_zero, List.getElem_cons_succ, Act.put, List.setIfInBounds_toArray, List.set_cons_zero, List.set_cons_succ]
  refine wpAnyU_take (i := 14) (v := _) HS.out (by rfl) (by kernel_rfl) (by kernel_rfl) (by kernel_rfl) (fun _ _ d _ _ h => by cases d <;> exact h) hdr (Steady.load_seg (by rfl) 25 (.tmp 3) (by rfl) (w.heap.size) 0 6 (by rfl) 25 .u64 a a _ (fun w hw => q5a.keep hw) Tryd.underlying25 rfl (by kernel_rfl) (by rw [List.drop_zero, take_all La.out]) (by rw [La.out]; omega)) ?_
  simp only [List.getElem_toArray, List.getElem_cons_zero, List.getElem_cons_succ, Act.put, List.setIfInBounds_toArray, List.set_cons_zero, List.set_cons_succ]
  refine wpAnyU_take (i := 15) (v := _) HS.out (by rfl) (by kernel_rfl) (by kernel_rfl) (by kernel_rfl) (fun _ _ d _ _ h => by cases d <;> exact h) hdr (Steady.of_yields (Or.inl ⟨by rfl, fun w => (by go_simp; with_reducible rfl)⟩)) ?_
  simp only [List.getElem_toArray, List.getElem_cons_zero, List.getElem_cons_succ, Act.put, List.setIfInBounds_toArray, List.set_cons_zero, List.set_cons_succ]
  refine wpAnyU_take (i := 19) (v := _) HS.out (by rfl) (by kernel_rfl) (by kernel_rfl) (by kernel_rfl) (fun _ _ d _ _ h => by cases d <;> exact h) hdr (Steady.load_seg (by rfl) 25 (.tmp 3) (by rfl) (w.heap.size) 0 6 (by rfl) 25 .u64 a a _ (fun w hw => q5a.keep hw) Tryd.underlying25 rfl (by kernel_rfl) (by rw [List.drop_zero, take_all La.out]) (by rw [La.out]; omega)) ?_
  simp only [List.getElem_toArray, List.getElem_cons_zero, List.getElem_cons_succ, Act.put, List.setIfInBounds_toArray, List.set_cons_zero, List.set_cons_succ]
  refine wpAnyU_take (i := 20) (v := _) HS.out (by rfl) (by kernel_rfl) (by kernel_rfl) (by kernel_rfl) (fun _ _ d _ _ h => by cases d <;> exact h) hdr (Steady.of_yields (Or.inl ⟨by rfl, fun w => (by go_simp; with_reducible rfl)⟩)) ?_
  simp only [List.getElem_toArray, List.getElem_cons_zero, List.getElem_cons_succ, Act.put, List.setIfInBounds_toArray, List.set_cons_zero, List.set_cons_succ]
  have hbd := hdr
  clear HS
  refine wpAnyU_two (i := 12) (k := 16) (by rfl) (by rfl) (by kernel_rfl) ?_ ?_
  · intro w6 hq6
    have hq6' := below_tr hdr hq6
    have qn6 : Has (w6.alloc (.cells (vals .u64 [e]) 23)) w6.heap.size 23 (vals .u64 [e]) := Has.new _ _ _
    have hb6 : Below w5.heap.size w5 (w6.alloc (.cells (vals .u64 [e]) 23)) := hq6'.alloc hq6'.size _
    refine wpList_unguard (by rfl) ?_
    refine wpList_own (by rfl) ?_
    go_wp2
    refine ⟨hb6, ?_⟩
    obtain ⟨w7, hw7⟩ : ∃ w7, w6.alloc (.cells (vals .u64 [e]) 23) = w7 := ⟨_, rfl⟩
    change wpAnyU _ _ _ _ _ _ _ _ (w6.alloc (.cells (vals .u64 [e]) 23))
    rw [hw7] at qn6 hb6 ⊢
    have q7a := q5a.keep hb6
    have HG7 : Keep (∀ x : World, Below w7.heap.size w7 x → Glob x) := ⟨fun x h => HG5.out _ (below_tr hb6 h)⟩
    have q7x := rd_here q5x hb6
    have hr7 : Below w7.heap.size w7 w7 := Below.refl _ _
    have HS7 : Keep (∀ w w' : World, Below w7.heap.size w7 w → Below w.heap.size w w' → Below w7.heap.size w7 w') := ⟨fun w w' h hb => below_tr h hb⟩
    refine wpAnyU_weaken (S' := fun x => Below w7.heap.size w7 x) (fun w h => below_tr hb6 h) ?_
    refine wpAnyU_take (i := 13) (v := .agg (vals .u64 pe)) HS7.out (by rfl) (by kernel_rfl) (by kernel_rfl) (by kernel_rfl) (fun _ _ d _ _ h => by cases d <;> exact h) hr7 (Or.inl ⟨by rfl, fun w hw => (by unfold Oper.quietAt; go_simp; exact C3.out _ _ (qn6.keep hw) (HG7.out _ hw))⟩) ?_
    simp only [List.getElem_toArray, List.getElem_cons_zero, List.getElem_cons_succ, Act.put, List.setIfInBounds_toArray, List.set_cons_zero, List.set_cons_succ]
    refine wpAnyU_run (i := 16) (by rfl) (by kernel_rfl) (fun w8 hq8 => ?_)
    have qm8 := qn6.keep hq8
    have qn8 : Has (w8.alloc (.cells (vals .u64 [f]) 23)) w8.heap.size 23 (vals .u64 [f]) := Has.new _ _ _
    have hb8 : Below w7.heap.size w7 (w8.alloc (.cells (vals .u64 [f]) 23)) := hq8.alloc hq8.size _
    refine wpList_unguard (by rfl) ?_
    refine wpList_own (by rfl) ?_
    go_wp2
    refine ⟨hb8, ?_⟩
    obtain ⟨w9, hw9⟩ : ∃ w9, w8.alloc (.cells (vals .u64 [f]) 23) = w9 := ⟨_, rfl⟩
    change wpAnyU _ _ _ _ _ _ _ _ (w8.alloc (.cells (vals .u64 [f]) 23))
    rw [hw9] at qn8 hb8 ⊢
    have q9a := q7a.keep hb8
    have q9x := rd_here q7x hb8
    have qm9 := qn6.keep hb8
    have HG9 : Keep (∀ x : World, Below w9.heap.size w9 x → Glob x) := ⟨fun x h => HG7.out _ (below_tr hb8 h)⟩
    have hr9 : Below w9.heap.size w9 w9 := Below.refl _ _
    have HS9 : Keep (∀ w w' : World, Below w9.heap.size w9 w → Below w.heap.size w w' → Below w9.heap.size w9 w') := ⟨fun w w' h hb => below_tr h hb⟩
    refine wpAnyU_weaken (S' := fun x => Below w9.heap.size w9 x) (fun w h => below_tr hb8 h) ?_
    refine wpAnyU_take (i := 17) (v := .agg (vals .u64 pf)) HS9.out (by rfl) (by kernel_rfl) (by kernel_rfl) (by kernel_rfl) (fun _ _ d _ _ h => by cases d <;> exact h) hr9 (Or.inl ⟨by rfl, fun w hw => (by unfold Oper.quietAt; go_simp; exact C4.out _ _ (qn8.keep hw) (HG9.out _ hw))⟩) ?_
    simp only [List.getElem_toArray, List.getElem_cons_zero, List.getElem_cons_succ, Act.put, List.setIfInBounds_toArray, List.set_cons_zero, List.set_cons_succ]
    refine wpAnyU_take (i := 18) (v := .agg (vals .u64 ps)) HS9.out (by rfl) (by kernel_rfl) (by kernel_rfl) (by kernel_rfl) (fun _ _ d _ _ h => by cases d <;> exact h) hr9 (Or.inl ⟨by rfl, fun w hw => (by unfold Oper.quietAt; go_simp; exact C5.out _ (HG9.out _ hw))⟩) ?_
    simp only [List.getElem_toArray, List.getElem_cons_zero, List.getElem_cons_succ, Act.put, List.setIfInBounds_toArray, List.set_cons_zero, List.set_cons_succ]
    refine wpAnyU_take (i := 21) (v := .agg (vals .u64 ps)) HS9.out (by rfl) (by kernel_rfl) (by kernel_rfl) (by kernel_rfl) (fun _ _ d _ _ h => by cases d <;> exact h) hr9 (Or.inl ⟨by rfl, fun w hw => (by unfold Oper.quietAt; go_simp; exact C6.out _ _ _ (rd_here q9x hw) (HG9.out _ hw))⟩) ?_
    simp only [List.getElem_toArray, List.getElem_cons_zero, List.getElem_cons_succ, Act.put, List.setIfInBounds_toArray, List.set_cons_zero, List.set_cons_succ]
    refine wpAnyU_take (i := 22) (v := .bool true) HS9.out (by rfl) (by kernel_rfl) (by kernel_rfl) (by kernel_rfl) (fun _ _ d _ _ h => by cases d <;> exact h) hr9 (Steady.of_yields (Or.inl ⟨by rfl, fun w => (by first | (go_simp; done) | (go_simp; with_reducible rfl))⟩)) ?_
    simp only [List.getElem_toArray, List.getElem_cons_zero, List.getElem_cons_succ, Act.put, List.setIfInBounds_toArray, List.set_cons_zero, List.set_cons_succ]
    refine wpAnyU_take (i := 23) (v := .bool true) HS9.out (by rfl) (by kernel_rfl) (by kernel_rfl) (by kernel_rfl) (fun _ _ d _ _ h => by cases d <;> exact h) hr9 (Steady.of_yields (Or.inl ⟨by rfl, fun w => (by first | (go_simp; done) | (go_simp; with_reducible rfl))⟩)) ?_
    simp only [List.getElem_toArray, List.getElem_cons_zero, List.getElem_cons_succ, Act.put, List.setIfInBounds_toArray, List.set_cons_zero, List.set_cons_succ]
    refine wpAnyU_take (i := 24) (v := .bool true) HS9.out (by rfl) (by kernel_rfl) (by kernel_rfl) (by kernel_rfl) (fun _ _ d _ _ h => by cases d <;> exact h) hr9 (Steady.of_yields (Or.inl ⟨by rfl, fun w => (by first | (go_simp; done) | (go_simp; with_reducible rfl))⟩)) ?_
    simp only [List.getElem_toArray, List.getElem_cons_zero, List.getElem_cons_succ, Act.put, List.setIfInBounds_toArray, List.set_cons_zero, List.set_cons_succ]
    refine wpAnyU_take (i := 25) (v := _) HS9.out (by rfl) (by kernel_rfl) (by kernel_rfl) (by kernel_rfl) (fun _ _ d _ _ h => by cases d <;> exact h) hr9 (Steady.load_seg (by rfl) 25 (.tmp 3) (by rfl) (w.heap.size) 0 6 (by rfl) 25 .u64 a a _ (fun w hw => q9a.keep hw) Tryd.underlying25 rfl (by kernel_rfl) (by rw [List.drop_zero, take_all La.out]) (by rw [La.out]; omega)) ?_
    simp only [List.getElem_toArray, List.getElem_cons_zero, List.getElem_cons_succ, Act.put, List.setIfInBounds_toArray, List.set_cons_zero, List.set_cons_succ]
    refine wpAnyU_take (i := 26) (v := .agg (vals .u64 [1, 0, 0, 0, 0, 0])) HS9.out (by rfl) (by kernel_rfl) (by kernel_rfl) (by kernel_rfl) (fun _ _ d _ _ h => by cases d <;> exact h) hr9 (Or.inl ⟨by rfl, fun w hw => (by unfold Oper.quietAt; go_simp; exact C7.out _ (HG9.out _ hw))⟩) ?_
    simp only [List.getElem_toArray, List.getElem_cons_zero, List.getElem_cons_succ, Act.put, List.setIfInBounds_toArray, List.set_cons_zero, List.set_cons_succ]
    refine wpAnyU_take (i := 27) (v := _) HS9.out (by rfl) (by kernel_rfl) (by kernel_rfl) (by kernel_rfl) (fun _ _ d _ _ h => by cases d <;> exact h) hr9 (Steady.build (by rfl) 25 #[(0, .const (.int .u64 1))] (by rfl) (vals .u64 [1, 0, 0, 0, 0, 0]) (by kernel_rfl)) ?_
    simp only [List.getElem_toArray, List.getElem_cons_zero, List.getElem_cons_succ, Act.put, List.setIfInBounds_toArray, List.set_cons_zero, List.set_cons_succ]
    refine wpAnyU_take (i := 28) (v := .bool true) HS9.out (by rfl) (by kernel_rfl) (by kernel_rfl) (by kernel_rfl) (fun _ _ d _ _ h => by cases d <;> exact h) hr9 (Steady.of_yields (Or.inl ⟨by rfl, fun w => (by first | (go_simp; done) | (go_simp; with_reducible rfl))⟩)) ?_
    simp only [List.getElem_toArray, List.getElem_cons_zero, List.getElem_cons_succ, Act.put, List.setIfInBounds_toArray, List.set_cons_zero, List.set_cons_succ]
    refine wpAnyU_take (i := 29) (v := .bool true) HS9.out (by rfl) (by kernel_rfl) (by kernel_rfl) (by kernel_rfl) (fun _ _ d _ _ h => by cases d <;> exact h) hr9 (Steady.of_yields (Or.inl ⟨by rfl, fun w => (by first | (go_simp; done) | (go_simp; with_reducible rfl))⟩)) ?_
    simp only [List.getElem_toArray, List.getElem_cons_zero, List.getElem_cons_succ, Act.put, List.setIfInBounds_toArray, List.set_cons_zero, List.set_cons_succ]
    refine wpAnyU_take (i := 30) (v := .bool true) HS9.out (by rfl) (by kernel_rfl) (by kernel_rfl) (by kernel_rfl) (fun _ _ d _ _ h => by cases d <;> exact h) hr9 (Steady.of_yields (Or.inl ⟨by rfl, fun w => (by first | (go_simp; done) | (go_simp; with_reducible rfl))⟩)) ?_
    simp only [List.getElem_toArray, List.getElem_cons_zero, List.getElem_cons_succ, Act.put, List.setIfInBounds_toArray, List.set_cons_zero, List.set_cons_succ]
    refine wpAnyU_end (by kernel_rfl) (fun w10 hq => ?_)
    have hb10 := hb5.trans ((below_tr hb6 (below_tr hb8 hq)).mono hb5.size)
    go_wp2
    go_ret
    exact ⟨rfl, hb10⟩
  · intro w6 hq6
    have hq6' := below_tr hdr hq6
    have qn6 : Has (w6.alloc (.cells (vals .u64 [f]) 23)) w6.heap.size 23 (vals .u64 [f]) := Has.new _ _ _
    have hb6 : Below w5.heap.size w5 (w6.alloc (.cells (vals .u64 [f]) 23)) := hq6'.alloc hq6'.size _
    refine wpList_unguard (by rfl) ?_
    refine wpList_own (by rfl) ?_
    go_wp2
    refine ⟨hb6, ?_⟩
    obtain ⟨w7, hw7⟩ : ∃ w7, w6.alloc (.cells (vals .u64 [f]) 23) = w7 := ⟨_, rfl⟩
    change wpAnyU _ _ _ _ _ _ _ _ (w6.alloc (.cells (vals .u64 [f]) 23))
    rw [hw7] at qn6 hb6 ⊢
    have q7a := q5a.keep hb6
    have HG7 : Keep (∀ x : World, Below w7.heap.size w7 x → Glob x) := ⟨fun x h => HG5.out _ (below_tr hb6 h)⟩
    have q7x := rd_here q5x hb6
    have hr7 : Below w7.heap.size w7 w7 := Below.refl _ _
    have HS7 : Keep (∀ w w' : World, Below w7.heap.size w7 w → Below w.heap.size w w' → Below w7.heap.size w7 w') := ⟨fun w w' h hb => below_tr h hb⟩
    refine wpAnyU_weaken (S' := fun x => Below w7.heap.size w7 x) (fun w h => below_tr hb6 h) ?_
    refine wpAnyU_run (i := 12) (by rfl) (by kernel_rfl) (fun w8 hq8 => ?_)
    have qm8 := qn6.keep hq8
    have qn8 : Has (w8.alloc (.cells (vals .u64 [e]) 23)) w8.heap.size 23 (vals .u64 [e]) := Has.new _ _ _
    have hb8 : Below w7.heap.size w7 (w8.alloc (.cells (vals .u64 [e]) 23)) := hq8.alloc hq8.size _
    refine wpList_unguard (by rfl) ?_
    refine wpList_own (by rfl) ?_
    go_wp2
    refine ⟨hb8, ?_⟩
    obtain ⟨w9, hw9⟩ : ∃ w9, w8.alloc (.cells (vals .u64 [e]) 23) = w9 := ⟨_, rfl⟩
    change wpAnyU _ _ _ _ _ _ _ _ (w8.alloc (.cells (vals .u64 [e]) 23))
    rw [hw9] at qn8 hb8 ⊢
    have q9a := q7a.keep hb8
    have q9x := rd_here q7x hb8
    have qm9 := qn6.keep hb8
    have HG9 : Keep (∀ x : World, Below w9.heap.size w9 x → Glob x) := ⟨fun x h => HG7.out _ (below_tr hb8 h)⟩
    have hr9 : Below w9.heap.size w9 w9 := Below.refl _ _
    have HS9 : Keep (∀ w w' : World, Below w9.heap.size w9 w → Below w.heap.size w w' → Below w9.heap.size w9 w') := ⟨fun w w' h hb => below_tr h hb⟩
    refine wpAnyU_weaken (S' := fun x => Below w9.heap.size w9 x) (fun w h => below_tr hb8 h) ?_
    refine wpAnyU_take (i := 13) (v := .agg (vals .u64 pe)) HS9.out (by rfl) (by kernel_rfl) (by kernel_rfl) (by kernel_rfl) (fun _ _ d _ _ h => by cases d <;> exact h) hr9 (Or.inl ⟨by rfl, fun w hw => (by unfold Oper.quietAt; go_simp; exact C3.out _ _ (qn8.keep hw) (HG9.out _ hw))⟩) ?_
    simp only [List.getElem_toArray, List.getElem_cons_zero, List.getElem_cons_succ, Act.put, List.setIfInBounds_toArray, List.set_cons_zero, List.set_cons_succ]
    refine wpAnyU_take (i := 17) (v := .agg (vals .u64 pf)) HS9.out (by rfl) (by kernel_rfl) (by kernel_rfl) (by kernel_rfl) (fun _ _ d _ _ h => by cases d <;> exact h) hr9 (Or.inl ⟨by rfl, fun w hw => (by unfold Oper.quietAt; go_simp; exact C4.out _ _ (qm9.keep hw) (HG9.out _ hw))⟩) ?_
    simp only [List.getElem_toArray, List.getElem_cons_zero, List.getElem_cons_succ, Act.put, List.setIfInBounds_toArray, List.set_cons_zero, List.set_cons_succ]
    refine wpAnyU_take (i := 18) (v := .agg (vals .u64 ps)) HS9.out (by rfl) (by kernel_rfl) (by kernel_rfl) (by kernel_rfl) (fun _ _ d _ _ h => by cases d <;> exact h) hr9 (Or.inl ⟨by rfl, fun w hw => (by unfold Oper.quietAt; go_simp; exact C5.out _ (HG9.out _ hw))⟩) ?_
    simp only [List.getElem_toArray, List.getElem_cons_zero, List.getElem_cons_succ, Act.put, List.setIfInBounds_toArray, List.set_cons_zero, List.set_cons_succ]
    refine wpAnyU_take (i := 21) (v := .agg (vals .u64 ps)) HS9.out (by rfl) (by kernel_rfl) (by kernel_rfl) (by kernel_rfl) (fun _ _ d _ _ h => by cases d <;> exact h) hr9 (Or.inl ⟨by rfl, fun w hw => (by unfold Oper.quietAt; go_simp; exact C6.out _ _ _ (rd_here q9x hw) (HG9.out _ hw))⟩) ?_
    simp only [List.getElem_toArray, List.getElem_cons_zero, List.getElem_cons_succ, Act.put, List.setIfInBounds_toArray, List.set_cons_zero, List.set_cons_succ]
    refine wpAnyU_take (i := 22) (v := .bool true) HS9.out (by rfl) (by kernel_rfl) (by kernel_rfl) (by kernel_rfl) (fun _ _ d _ _ h => by cases d <;> exact h) hr9 (Steady.of_yields (Or.inl ⟨by rfl, fun w => (by first | (go_simp; done) | (go_simp; with_reducible rfl))⟩)) ?_
    simp only [List.getElem_toArray, List.getElem_cons_zero, List.getElem_cons_succ, Act.put, List.setIfInBounds_toArray, List.set_cons_zero, List.set_cons_succ]
    refine wpAnyU_take (i := 23) (v := .bool true) HS9.out (by rfl) (by kernel_rfl) (by kernel_rfl) (by kernel_rfl) (fun _ _ d _ _ h => by cases d <;> exact h) hr9 (Steady.of_yields (Or.inl ⟨by rfl, fun w => (by first | (go_simp; done) | (go_simp; with_reducible rfl))⟩)) ?_
    simp only [List.getElem_toArray, List.getElem_cons_zero, List.getElem_cons_succ, Act.put, List.setIfInBounds_toArray, List.set_cons_zero, List.set_cons_succ]
    refine wpAnyU_take (i := 24) (v := .bool true) HS9.out (by rfl) (by kernel_rfl) (by kernel_rfl) (by kernel_rfl) (fun _ _ d _ _ h => by cases d <;> exact h) hr9 (Steady.of_yields (Or.inl ⟨by rfl, fun w => (by first | (go_simp; done) | (go_simp; with_reducible rfl))⟩)) ?_
    simp only [List.getElem_toArray, List.getElem_cons_zero, List.getElem_cons_succ, Act.put, List.setIfInBounds_toArray, List.set_cons_zero, List.set_cons_succ]
    refine wpAnyU_take (i := 25) (v := _) HS9.out (by rfl) (by kernel_rfl) (by kernel_rfl) (by kernel_rfl) (fun _ _ d _ _ h => by cases d <;> exact h) hr9 (Steady.load_seg (by rfl) 25 (.tmp 3) (by rfl) (w.heap.size) 0 6 (by rfl) 25 .u64 a a _ (fun w hw => q9a.keep hw) Tryd.underlying25 rfl (by kernel_rfl) (by rw [List.drop_zero, take_all La.out]) (by rw [La.out]; omega)) ?_
    simp only [List.getElem_toArray, List.getElem_cons_zero, List.getElem_cons_succ, Act.put, List.setIfInBounds_toArray, List.set_cons_zero, List.set_cons_succ]
    refine wpAnyU_take (i := 26) (v := .agg (vals .u64 [1, 0, 0, 0, 0, 0])) HS9.out (by rfl) (by kernel_rfl) (by kernel_rfl) (by kernel_rfl) (fun _ _ d _ _ h => by cases d <;> exact h) hr9 (Or.inl ⟨by rfl, fun w hw => (by unfold Oper.quietAt; go_simp; exact C7.out _ (HG9.out _ hw))⟩) ?_
    simp only [List.getElem_toArray, List.getElem_cons_zero, List.getElem_cons_succ, Act.put, List.setIfInBounds_toArray, List.set_cons_zero, List.set_cons_succ]
    refine wpAnyU_take (i := 27) (v := _) HS9.out (by rfl) (by kernel_rfl) (by kernel_rfl) (by kernel_rfl) (fun _ _ d _ _ h => by cases d <;> exact h) hr9 (Steady.build (by rfl) 25 #[(0, .const (.int .u64 1))] (by rfl) (vals .u64 [1, 0, 0, 0, 0, 0]) (by kernel_rfl)) ?_
    simp only [List.getElem_toArray, List.getElem_cons_zero, List.getElem_cons_succ, Act.put, List.setIfInBounds_toArray, List.set_cons_zero, List.set_cons_succ]
    refine wpAnyU_take (i := 28) (v := .bool true) HS9.out (by rfl) (by kernel_rfl) (by kernel_rfl) (by kernel_rfl) (fun _ _ d _ _ h => by cases d <;> exact h) hr9 (Steady.of_yields (Or.inl ⟨by rfl, fun w => (by first | (go_simp; done) | (go_simp; with_reducible rfl))⟩)) ?_
    simp only [List.getElem_toArray, List.getElem_cons_zero, List.getElem_cons_succ, Act.put, List.setIfInBounds_toArray, List.set_cons_zero, List.set_cons_succ]
    refine wpAnyU_take (i := 29) (v := .bool true) HS9.out (by rfl) (by kernel_rfl) (by kernel_rfl) (by kernel_rfl) (fun _ _ d _ _ h => by cases d <;> exact h) hr9 (Steady.of_yields (Or.inl ⟨by rfl, fun w => (by first | (go_simp; done) | (go_simp; with_reducible rfl))⟩)) ?_
    simp only [List.getElem_toArray, List.getElem_cons_zero, List.getElem_cons_succ, Act.put, List.setIfInBounds_toArray, List.set_cons_zero, List.set_cons_succ]
    refine wpAnyU_take (i := 30) (v := .bool true) HS9.out (by rfl) (by kernel_rfl) (by kernel_rfl) (by kernel_rfl) (fun _ _ d _ _ h => by cases d <;> exact h) hr9 (Steady.of_yields (Or.inl ⟨by rfl, fun w => (by first | (go_simp; done) | (go_simp; with_reducible rfl))⟩)) ?_
    simp only [List.getElem_toArray, List.getElem_cons_zero, List.getElem_cons_succ, Act.put, List.setIfInBounds_toArray, List.set_cons_zero, List.set_cons_succ]
    refine wpAnyU_end (by kernel_rfl) (fun w10 hq => ?_)
    have hb10 := hb5.trans ((below_tr hb6 (below_tr hb8 hq)).mono hb5.size)
    go_wp2
    go_ret
    exact ⟨rfl, hb10⟩
end Go.Proofs.YtpkfknmpegieaaaDoor.Fp
