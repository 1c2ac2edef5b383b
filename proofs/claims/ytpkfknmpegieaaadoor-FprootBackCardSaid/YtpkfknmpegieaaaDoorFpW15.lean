/-
  Own text. The contract of Wide of package fp.
-/
import Derived.Test.YtpkfknmpegieaaaDoorFpW14
import Derived.Test.YtpkfknmpegieaaaDoorFpW7
import Derived.Test.YtpkfknmpegieaaaDoorLimbOwnI
namespace Go.Proofs.YtpkfknmpegieaaaDoor.Fp
set_option linter.unusedVariables false
set_option linter.unusedSimpArgs false
open Go Go.RowKit Go.Proofs.YtpkfknmpegieaaaDoor.Reg Go.Proofs.YtpkfknmpegieaaaDoor.Base Go.Proofs.YtpkfknmpegieaaaDoor.Limb Go.Proofs.YtpkfknmpegieaaaDoor.Bits

theorem fe_up (x y : Int) (k : Int) : fe (x + k * num (fe y)) = fe (x + k * y) := fe_congr (by rw [Int.add_emod, Int.mul_emod, num_fe, Int.emod_emod, ← Int.mul_emod, ← Int.add_emod])
/-- Twelve words: six of the row (noughts where it has none), and what is left above them. -/
theorem wide_step {l cs o : List Int} {e s m : Nat} (hs : s + m = e) (hm : m ≤ 6) (he : e ≤ l.length) (hc : m = 6 ∨ e = l.length) (hcs : (l.drop s).take m = cs) (ho : fe (num (l.drop e)) = o) (hw : Words l) :
    ((cs ++ List.replicate (6 - m) 0) ++ o).length = 12 ∧ Words ((cs ++ List.replicate (6 - m) 0) ++ o) ∧ cs.length = m ∧ fe (num ((cs ++ List.replicate (6 - m) 0) ++ o)) = fe (num (l.drop s)) := by
  have hl : cs.length = m := by rw [← hcs, List.length_take, List.length_drop]; omega
  have hol : o.length = 6 := ho ▸ fe_len _
  have h6 : (cs ++ List.replicate (6 - m) (0 : Int)).length = 6 := by rw [List.length_append, List.length_replicate, hl]; omega
  refine ⟨by rw [List.length_append, h6, hol], words_append (words_append (by rw [← hcs]; exact words_take (words_drop hw _) _) (words_zeros _)) (ho ▸ fe_words _), hl, ?_⟩
  have hd : l.drop s = cs ++ l.drop e := by
    have := (List.take_append_drop m (l.drop s)).symm
    rwa [hcs, List.drop_drop, hs] at this
  rw [num_append, h6, num_append, num_zeros, Int.mul_zero, Int.add_zero, hd, num_append, hl, ← ho, fe_up]
  rcases hc with h | h
  · rw [h]
  · rw [h, num_drop_all, Int.mul_zero, Int.mul_zero]

theorem wide_fill {cs o : List Int} {m : Nat} (hl : cs.length = m) (hm : m ≤ 6) : (cs ++ List.replicate (12 - m) (0 : Int)).take 6 ++ (o ++ (cs ++ List.replicate (12 - m) (0 : Int)).drop (6 + 6)) = (cs ++ List.replicate (6 - m) 0) ++ o := by
  have h1 : (cs ++ List.replicate (12 - m) (0 : Int)).drop (6 + 6) = [] := List.drop_of_length_le (by rw [List.length_append, List.length_replicate, hl]; omega)
  have h2 : (cs ++ List.replicate (12 - m) (0 : Int)).take 6 = cs ++ List.replicate (6 - m) 0 := by
    rw [List.take_append, List.take_of_length_le (by omega), hl, List.take_replicate]
    congr 2
    omega
  rw [h1, h2, List.append_nil]

set_option maxRecDepth 100000 in
set_option maxHeartbeats 2000000 in
theorem fpWide_c (A : Option Addr) (n c : Nat) (l : List Int) (B : Nat) (w : World) (hG : Glob w) (hr : Rd w B A n .u64 l) (hw : Words l) (hB : B ≤ w.heap.size) (hn : n ≤ 100000) (hc : n ≤ c) : Calls Tryd.prog 35 #[.slice A n c] w fun e w' => e = .returned (.agg (vals .u64 (fe (num l)))) ∧ Below w.heap.size w w' := by
  have LN : Keep _ := ⟨hr.len⟩
  have LW : Keep _ := ⟨hw⟩
  clear hw
  obtain ⟨S, hS⟩ : ∃ S, w.heap.size = S := ⟨_, rfl⟩
  have hR0 : Has ((w.alloc (.cells (vals .u64 Z6) 25)).alloc (.cells (vals .u64 Z6) 25)) S 25 (vals .u64 Z6) := (Has.new' _ hS.symm _ _).alloc _
  have hO0 : Has ((w.alloc (.cells (vals .u64 Z6) 25)).alloc (.cells (vals .u64 Z6) 25)) (S + 1) 25 (vals .u64 (fe (num (l.drop n)))) := by
    rw [← hr.len, num_drop_all, fe_zero]; exact Has.new' _ (by rw [World.size_alloc, hS]) _ _
  have hb0 : Below S w ((w.alloc (.cells (vals .u64 Z6) 25)).alloc (.cells (vals .u64 Z6) 25)) := by rw [← hS]; exact ((Below.refl _ _).alloc (Nat.le_refl _) _).alloc (by simp) _
  have HS0 : Keep (S ≤ w.heap.size) := ⟨by omega⟩
  have HSS : Keep (∀ w', Below S w w' → S ≤ w'.heap.size) := ⟨fun w' hb => Nat.le_trans HS0.out hb.size⟩
  have HGG : Keep (∀ w', Below S w w' → Glob w') := ⟨fun w' hb => hG.keep (by rw [hS]; exact hb)⟩
  have FR : Keep (∀ g, S ≤ g → Free g) := ⟨fun g hg => hG.free (by omega)⟩
  have HRD : Keep (∀ w', Below S w w' → Rd w' B A n .u64 l) := ⟨fun w' hb => hr.keep hb (by omega)⟩
  have HBS : Keep (B ≤ S) := ⟨by omega⟩
  rw [hS]
  clear hr hG hB
  go_enter Tryd.func35, Tryd.ntmps35
  go_wp2
  go_loopg [4] n (fun (gk : Nat) vi wr => gk ≤ n ∧ (gk = n ∨ gk % 6 = 0) ∧ vi = .int .i64 (gk : Int) ∧ Has wr S 25 (vals .u64 Z6) ∧ Has wr (S + 1) 25 (vals .u64 (fe (num (l.drop gk)))) ∧ Below S w wr)
  case atStart => exact ⟨Nat.le_refl _, .inl rfl, rfl, hR0, hO0, hb0⟩
  case round =>
    clear hR0 hO0 hb0
    obtain ⟨hk, hsix, rfl, hR, hO, hb⟩ := hrel
    rcases gk with _ | i
    · obtain ⟨o, ho⟩ : ∃ o, fe (num (l.drop 0)) = o := ⟨_, rfl⟩
      rw [ho] at hO
      have OL : Keep (o.length = 6) := ⟨ho ▸ fe_len _⟩
      have FIN : Keep (o = fe (num l)) := ⟨by rw [← ho, List.drop_zero]⟩
      clear ho
      go_wp2_with (first
        | (refine wpList_load_row rfl 25 (.tmp 3) rfl (S + 1) rfl _ _ _ _ hO.eq Tryd.underlying25 rfl (by rw [vals_size, OL.out]; kernel_rfl) ?_)
        | (refine wpList_store_rowTo rfl 25 (.tmp 2) (.tmp 26) rfl rfl S (vals .u64 o) rfl rfl _ _ hR.eq (by rw [vals_size, OL.out]; kernel_rfl) (by rw [vals_size, vals_size, OL.out]; rfl) vals_one ?_))
      refine bodyPost_ret (v := .agg (vals .u64 o)) (results_cell_row rfl _ _ S _ _ _ _ rfl (hR.row _).eq Tryd.underlying25 rfl (by rw [vals_size, OL.out]; kernel_rfl)) rfl ⟨ret_eq (by rw [FIN.out]), below_row hb (Nat.le_refl _) _⟩
    · obtain ⟨q, hq0⟩ : ∃ q, i / 6 = q := ⟨_, rfl⟩
      obtain ⟨s, hs⟩ : ∃ s, q * 6 = s := ⟨_, rfl⟩
      obtain ⟨m, hm⟩ : ∃ m, s + m = i + 1 := ⟨i + 1 - s, by omega⟩
      obtain ⟨o, ho⟩ : ∃ o, fe (num (l.drop (i + 1))) = o := ⟨_, rfl⟩
      obtain ⟨cs, hcs⟩ : ∃ cs, (l.drop s).take m = cs := ⟨_, rfl⟩
      have hm6 : m ≤ 6 := by omega
      have hm0 : 0 < m := by omega
      have ST : Keep _ := ⟨wide_step hm hm6 (by rw [LN.out]; exact hk) (by rw [LN.out]; omega) hcs ho LW.out⟩
      rw [ho] at hO
      have OL : Keep (o.length = 6) := ⟨ho ▸ fe_len _⟩
      have hsm : s % 6 = 0 := by omega
      obtain ⟨b1, o1, rfl, hlb1, hc1⟩ := (HRD.out _ hb).at_ (by omega)
      have RS : Keep (∀ w', Below S w w' → Rd w' B (some ⟨b1, o1 + s, none⟩) m .u64 cs) := ⟨fun w' hb' => rd_sub (HRD.out _ hb') (by omega) hcs⟩
      have e1 : IntKind.i64.wrap (((i + 1 : Nat) : Int) - 1) = (i : Int) := by rw [IntKind.wrap_i64]; omega
      have e1' : ((i + 1 : Nat) : Int) - 1 = (i : Int) := by omega
      have e2 : (i : Int).tdiv 6 = (q : Int) := by rw [Int.tdiv_eq_ediv_of_nonneg (by omega)]; omega
      have e3 : (q : Int) * 6 = (s : Int) := by omega
      have e4 : i + 1 - s = m := by omega
      clear ho hcs hc1 hsix hq0 hs

      go_wp2
      refine wp_fam 5 (by kernel_rfl) (by kernel_rfl) (fun I hI' fw hf hback => ?_)
      simp only [List.take_succ_cons, List.take_zero, List.drop_succ_cons, List.drop_zero]
      repeat (go_big_quiet_step (fail))
      refine wpQuiet_nil ?_
      intro w1 hq1
      obtain ⟨g, hg⟩ : ∃ g, wr.heap.size = g := ⟨_, rfl⟩
      have hbw : Below S wr (wr.alloc (.cells (vals .u64 (List.replicate 12 0)) 56)) := (Below.refl _ _).alloc (HSS.out _ hb) _
      have hA0 : Has (wr.alloc (.cells (vals .u64 (List.replicate 12 0)) 56)) g 56 (vals .u64 (List.replicate 12 0)) := Has.new' _ hg.symm _ _
      have hA1 : Has w1 g 56 (vals .u64 (List.replicate 12 0)) := hA0.keep hq1
      have hO1 : Has w1 (S + 1) 25 (vals .u64 o) := (hO.alloc _).keep hq1
      have hR1 : Has w1 S 25 (vals .u64 Z6) := (hR.alloc _).keep hq1
      have hb1 : Below S w w1 := (hb.trans hbw).trans (hq1.mono (HSS.out _ (hb.trans hbw)))
      have nO : S + 1 ≠ g := by have := hO.lt; omega
      have nR : S ≠ g := by have := hR.lt; omega
      have HGS : Keep (S ≤ g) := ⟨by have := hR.lt; omega⟩
      have hrd := RS.out _ hb1
      rw [hg]
      clear hf hback hq1 hA0 hbw hO hR hb
      refine copy_only (by rfl) (.tmp 15) (.tmp 19) 30 30 (by rfl) 23 Tryd.underlying30 (by kernel_rfl) g 0 6 _ (some ⟨b1, o1 + s, none⟩) m _ (by rfl) (by rfl) .u64 56 (List.replicate 12 0) cs B hA1 hrd hm0 hm6 (by rw [List.length_replicate]; omega) (cs ++ List.replicate (12 - m) 0) (by rw [List.take_zero, List.nil_append, Nat.zero_add, List.drop_replicate]) ?_
      intro w2 hA2 hon
      have hO2 := hon.has hO1 nO
      have hR2 := hon.has hR1 nR
      have hb2 := hb1.trans (hon.below (B := S) HGS.out (HSS.out _ hb1))
      clear hA1 hO1 hR1 hb1 hon hrd
      simp only [Act.put, List.setIfInBounds_toArray, List.set_cons_zero, List.set_cons_succ]
      go_wp2
      refine wp_fam 2 (by kernel_rfl) (by kernel_rfl) (fun I hI' fw hf hback => ?_)
      simp only [List.take_succ_cons, List.take_zero, List.drop_succ_cons, List.drop_zero]
      repeat (go_big_quiet_step (fail))
      refine wpQuiet_nil ?_
      intro w3 hq
      have hA3 := hA2.keep hq
      have hO3 := hO2.keep hq
      have hR3 := hR2.keep hq
      have hb3 := hb2.trans (hq.mono (HSS.out _ hb2))
      clear hf hback hq hA2 hO2 hR2 hb2
      refine copy_only (by rfl) (.tmp 21) (.tmp 22) 30 30 (by rfl) 23 Tryd.underlying30 (by kernel_rfl) g 6 6 _ (some ⟨S + 1, 0, none⟩) 6 _ (by rfl) (by rfl) .u64 56 (cs ++ List.replicate (12 - m) 0) o (S + 2) hA3 (Rd.of_has hO3 (by omega) (by rw [List.drop_zero, take_all OL.out]) (by rw [OL.out]; omega)) (by omega) (by omega) (by rw [List.length_append, List.length_replicate, ST.out.2.2.1]; omega) ((cs ++ List.replicate (6 - m) 0) ++ o) (wide_fill ST.out.2.2.1 hm6) ?_
      intro w4 hA4 hon
      have hO4 := hon.has hO3 nO
      have hR4 := hon.has hR3 nR
      have hb4 := hb3.trans (hon.below (B := S) HGS.out (HSS.out _ hb3))
      have hG4 : Keep _ := ⟨HGG.out _ hb4⟩
      clear hA3 hO3 hR3 hb3 hon
      simp only [Act.put, List.setIfInBounds_toArray, List.set_cons_zero, List.set_cons_succ]
      go_wp2_with (first
        | (refine store_abs2 (by rfl) 25 (.tmp 3) (.tmp 24) (by rfl) (by rfl) (S + 1) (vals .u64 (fe (num (l.drop s)))) (by rfl) (by rfl) 25 (vals .u64 o) hO5 (by rw [vals_size, fe_len]; kernel_rfl) (by rw [vals_size, vals_size, fe_len, OL.out]) vals_one ?_
           intro w6 hO6 hkeep hbg
           have hR6 := hkeep _ _ _ hR5 (by omega)
           have hb6 := hb5.trans (hbg.mono (by omega))
           clear hkeep hbg hO5 hR5 hb5)
        | (go_at_call 61
           refine (folded_c g 56 _ ST.out.1 ST.out.2.1 (FR.out _ HGS.out) _ hG4.out hA4).mono ?_
           rintro e w5 ⟨rfl, hon⟩
           rw [ST.out.2.2.2]
           have hO5 := hon.has hO4 nO
           have hR5 := hon.has hR4 nR
           have hb5 := hb4.trans (hon.below (B := S) HGS.out (HSS.out _ hb4))
           clear hA4 hO4 hR4 hb4 hon))
      go_roundg s
      case measure => omega
      case rel => exact ⟨by omega, .inr hsm, rfl, hR6, hO6, hb6⟩
end Go.Proofs.YtpkfknmpegieaaaDoor.Fp
