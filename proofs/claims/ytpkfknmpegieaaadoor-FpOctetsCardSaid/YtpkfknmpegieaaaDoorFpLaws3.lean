/-
  Own text. The walks of layer 4's statements: powers, bytes.
-/
import Derived.Test.YtpkfknmpegieaaaDoorFpAwake
namespace Go.Proofs.YtpkfknmpegieaaaDoor.Fp
set_option linter.unusedVariables false
set_option linter.unusedSimpArgs false
open Go Go.RowKit Go.Proofs.YtpkfknmpegieaaaDoor.Reg Go.Proofs.YtpkfknmpegieaaaDoor.Base Go.Proofs.YtpkfknmpegieaaaDoor.Limb Go.Proofs.YtpkfknmpegieaaaDoor.Bits

set_option maxRecDepth 100000 in
set_option maxHeartbeats 4000000 in
theorem fpPowers_small (a : List Int) (hla : a.length = 6) (hwa : Words a) (A : Option Addr) (n c : Nat) (l : List Int) (A' : Option Addr) (n' c' : Nat) (l' : List Int) (w : World) (hG : GlobD w) (hr : Rd w w.heap.size A n .u64 l) (hwl : Words l) (hr' : Rd w w.heap.size A' n' .u64 l') (hwl' : Words l') (hn1 : n ≤ 8) (hn2 : n' ≤ 20) (hc2 : n' ≤ c') : Calls Tryd.prog 6 #[.agg (vals .u64 a), .slice A n c, .slice A' n' c'] w fun e w' => e = .returned (.bool true) ∧ Below w.heap.size w w' := by
  obtain ⟨s1, hs1⟩ : ∃ o, fe (pw (num a) (num l)) = o := ⟨_, rfl⟩
  obtain ⟨s2, hs2⟩ : ∃ o, fe (num l') = o := ⟨_, rfl⟩
  have E1 := eq6 s1 (by rw [← hs1]; exact fe_len _)
  have E2 := eq6 s2 (by rw [← hs2]; exact fe_len _)
  have P1 : Keep (∀ w', Rd w' w'.heap.size A n .u64 l → Glob w' → Calls Tryd.prog 33 #[.agg (vals .u64 a), .slice A n c] w' fun e w'' => e = .returned (.agg (vals .u64 s1)) ∧ Below w'.heap.size w' w'') := ⟨fun w' h hG => by rw [← hs1]; exact fpPow_c a hla hwa A n c l _ w' hG h hwl (Nat.le_refl _) (by omega)⟩
  have P2 : Keep (∀ w', Rd w' w'.heap.size A n .u64 l → Calls Tryd.prog 34 #[.agg (vals .u64 a), .slice A n c] w' fun e w'' => e = .returned (.agg (vals .u64 s1)) ∧ Below w'.heap.size w' w'') := ⟨fun w' h => by rw [← hs1]; exact refFpPow_c a hla hwa A n c l _ w' h hwl (Nat.le_refl _) (by omega)⟩
  have P3 : Keep (∀ w', Rd w' w'.heap.size A' n' .u64 l' → Glob w' → Calls Tryd.prog 35 #[.slice A' n' c'] w' fun e w'' => e = .returned (.agg (vals .u64 s2)) ∧ Below w'.heap.size w' w'') := ⟨fun w' h hG => by rw [← hs2]; exact fpWide_c A' n' c' l' _ w' hG h hwl' (Nat.le_refl _) (by omega) hc2⟩
  have P4 : Keep (∀ w', Rd w' w'.heap.size A' n' .u64 l' → Calls Tryd.prog 36 #[.slice A' n' c'] w' fun e w'' => e = .returned (.agg (vals .u64 s2)) ∧ Below w'.heap.size w' w'') := ⟨fun w' h => by rw [← hs2]; exact refWide_c A' n' c' l' _ w' h hwl' (Nat.le_refl _) (by omega)⟩
  have hgd := gd6
  have HG : Keep (∀ x : World, Below w.heap.size w x → Glob x) := ⟨fun x h => hG.toGlob.keep h⟩
  have HD : Keep (∀ x : World, Below w.heap.size w x → GlobD x) := ⟨fun x h => hG.keep h⟩
  clear hG
  have qa0 : Has (w.alloc (.cells (vals .u64 a) 25)) (w.heap.size) 25 (vals .u64 a) := (Has.new _ _ _)
  have hb0 : Below w.heap.size w (w.alloc (.cells (vals .u64 a) 25)) := ((Below.refl _ _).alloc (by simp <;> omega) _)
  have La : Keep _ := ⟨hla⟩
  have Wa : Keep _ := ⟨hwa⟩
  clear hs1 hs2 hla hwa hwl hwl'
  go_enter Tryd.func6, Tryd.ntmps6
  go_wp2_with (first
    | (go_at_call 18
       refine (awake_c _ (HD.out _ hb0)).mono ?_
       rintro e w1 ⟨rfl, hq⟩
       have qa1 := qa0.keep hq
       have hb1 := hb0.trans (hq.mono hb0.size)
       clear hq hb0 qa0))
  have r1 := rd_here hr hb1
  have r2 := rd_here hr' hb1
  have Q1 := fun w' (h : Below w1.heap.size w1 w') => P1.out w' (rd_here r1 h)
  have R1 : Keep _ := ⟨Q1⟩
  clear Q1
  have Q2 := fun w' (h : Below w1.heap.size w1 w') => P2.out w' (rd_here r1 h)
  have R2 : Keep _ := ⟨Q2⟩
  clear Q2
  have Q3 := fun w' (h : Below w1.heap.size w1 w') => P3.out w' (rd_here r2 h)
  have R3 : Keep _ := ⟨Q3⟩
  clear Q3
  have Q4 := fun w' (h : Below w1.heap.size w1 w') => P4.out w' (rd_here r2 h)
  have R4 : Keep _ := ⟨Q4⟩
  clear Q4
  refine wp_fam_all (by kernel_rfl) (by kernel_rfl) (fun I hI' fw hf hback => ?_)
  have HGf : Keep (∀ j, Glob (fw j)) := ⟨fun j => HG.out _ (hb1.trans ((hf j).mono hb1.size))⟩
  have HDf : Keep (∀ j, GlobD (fw j)) := ⟨fun j => HD.out _ (hb1.trans ((hf j).mono hb1.size))⟩
  repeat (first
    | (go_big_quiet_want
       refine quiet_load_seg 25 (.tmp 3) (by rfl) (w.heap.size) 0 6 (by rfl) 25 .u64 a a _ (fun w' ⟨i, hi⟩ => by rw [hi]; exact qa1.keep (hf i)) Tryd.underlying25 rfl (by kernel_rfl) (by rw [List.drop_zero, take_all La.out]) (by rw [La.out]; omega) ?_
       simp only [Act.put, List.setIfInBounds_toArray, List.set_cons_zero, List.set_cons_succ]
       go_big_quiet_on)
    | go_big_quiet_step (first | fail | (go_at_call 33; with_reducible exact calls_fam hf hback (R1.out _ (hf _) (HGf.out _))) | (go_at_call 34; with_reducible exact calls_fam hf hback (R2.out _ (hf _))) | (go_at_call 35; with_reducible exact calls_fam hf hback (R3.out _ (hf _) (HGf.out _))) | (go_at_call 36; with_reducible exact calls_fam hf hback (R4.out _ (hf _)))))
  refine wpQuiet_nil ?_
  intro w2 hq
  have hb2 := hb1.trans (hq.mono hb1.size)
  clear HDf HGf hf hback hq  hb1 qa1
  go_wp2
  go_ret
  exact ⟨rfl, hb2⟩
set_option maxRecDepth 100000 in
set_option maxHeartbeats 1000000 in
theorem fpPowers_big (a : List Int) (hla : a.length = 6) (A : Option Addr) (n c : Nat) (A' : Option Addr) (n' c' : Nat) (w : World) (hG : GlobD w) (hn : ¬ (n ≤ 8 ∧ n' ≤ 20)) : Calls Tryd.prog 6 #[.agg (vals .u64 a), .slice A n c, .slice A' n' c'] w fun e w' => e = .returned (.bool true) ∧ Below w.heap.size w w' := by
  have hb0 : Below w.heap.size w (w.alloc (.cells (vals .u64 a) 25)) := (Below.refl _ _).alloc (Nat.le_refl _) _
  clear hla
  by_cases h1 : n ≤ 8
  · have h2 : ¬ n' ≤ 20 := fun h => hn ⟨h1, h⟩
    have h3 : 20 < n' := by omega
    clear hn h2
    go_enter Tryd.func6, Tryd.ntmps6
    go_wp2_with (go_at_call 18; refine (awake_c _ (hG.keep hb0)).mono ?_; rintro e w1 ⟨rfl, hq⟩; have hb1 := hb0.trans (hq.mono hb0.size))
    go_ret
    exact ⟨rfl, hb1⟩
  · have h3 : 8 < n := by omega
    clear hn h1
    go_enter Tryd.func6, Tryd.ntmps6
    go_wp2_with (go_at_call 18; refine (awake_c _ (hG.keep hb0)).mono ?_; rintro e w1 ⟨rfl, hq⟩; have hb1 := hb0.trans (hq.mono hb0.size))
    go_ret
    exact ⟨rfl, hb1⟩
theorem fpPowers_w (a : List Int) (hla : a.length = 6) (hwa : Words a) (A : Option Addr) (n c : Nat) (l : List Int) (A' : Option Addr) (n' c' : Nat) (l' : List Int) (w : World) (hG : GlobD w) (h : Rd w w.heap.size A n .u64 l ∧ Words l) (h' : Rd w w.heap.size A' n' .u64 l' ∧ Words l') (hc2 : n' ≤ c') : Calls Tryd.prog 6 #[.agg (vals .u64 a), .slice A n c, .slice A' n' c'] w fun e w' => e = .returned (.bool true) ∧ Below w.heap.size w w' := by
  by_cases hn : n ≤ 8 ∧ n' ≤ 20
  · exact fpPowers_small a hla hwa A n c l A' n' c' l' w hG h.1 h.2 h'.1 h'.2 hn.1 hn.2 hc2
  · exact fpPowers_big a hla A n c A' n' c' w hG hn

/-- What both answer of bytes: six words and an error's number. -/
theorem fromBytes_both (A : Option Addr) (n c : Nat) (b : List Int) (hby : Bytes b) : ∃ (o : List Int) (z : Int), o.length = 6 ∧
    (∀ w', Rd w' w'.heap.size A n .u8 b → Glob w' → Calls Tryd.prog 37 #[.slice A n c] w' fun e w'' => e = .returned (.tuple #[.agg (vals .u64 o), .int .i64 z]) ∧ Below w'.heap.size w' w'') ∧
    (∀ w', Rd w' w'.heap.size A n .u8 b → Calls Tryd.prog 38 #[.slice A n c] w' fun e w'' => e = .returned (.tuple #[.agg (vals .u64 o), .int .i64 z]) ∧ Below w'.heap.size w' w'') := by
  by_cases hn : n = 48
  · subst hn
    by_cases hp : PP ≤ bnum b
    · refine ⟨Z6, 41, rfl, fun w' h hG => ?_, fun w' h => ?_⟩
      · have := fpFromBytes_c A c b _ w' hG h hby (Nat.le_refl _)
        rwa [if_pos hp] at this
      · have := refFromBytes_c A c b _ w' h hby (Nat.le_refl _)
        rwa [if_pos hp] at this
    · refine ⟨fe (bnum b), 0, fe_len _, fun w' h hG => ?_, fun w' h => ?_⟩
      · have := fpFromBytes_c A c b _ w' hG h hby (Nat.le_refl _)
        rwa [if_neg hp] at this
      · have := refFromBytes_c A c b _ w' h hby (Nat.le_refl _)
        rwa [if_neg hp] at this
  · exact ⟨Z6, 40, rfl, fun w' _ hG => fpFromBytes_no A n c w' hG hn, fun w' _ => refFromBytes_no A n c w' hn⟩
theorem eq48 (l : List Int) (h : l.length = 48) : ∀ w : World, (Op.equalIn 10000 38 (.agg (vals .u8 l)) (.agg (vals .u8 l))).run Tryd.prog w = .ok true w := fun w => by
  rw [equalIn_vals (d := 9998) Tryd.underlying38 Tryd.underlying5 (by kernel_rfl) (by kernel_rfl) h h]
  simp
theorem gd48 : Tryd.prog.eqGuardType Tryd.prog.depth 38 = false := by kernel_rfl

set_option maxRecDepth 100000 in
set_option maxHeartbeats 4000000 in
theorem fpOctets_w (a : List Int) (hla : a.length = 6) (hwa : Words a) (A : Option Addr) (n c : Nat) (b : List Int) (w : World) (hG : GlobD w) (h : Rd w w.heap.size A n .u8 b ∧ Bytes b) : Calls Tryd.prog 7 #[.agg (vals .u64 a), .slice A n c] w fun e w' => e = .returned (.bool true) ∧ Below w.heap.size w w' := by
  obtain ⟨hr, hby⟩ := h
  obtain ⟨o, z, hlo, F1, F2⟩ := fromBytes_both A n c b hby
  have Lo : Keep _ := ⟨hlo⟩
  have P1 : Keep _ := ⟨F1⟩
  have P2 : Keep _ := ⟨F2⟩
  obtain ⟨t, ht⟩ : ∃ t, octL (fe (num a)) 48 = t := ⟨_, rfl⟩
  have E1 := eq6 o hlo
  have E2 := eq48 t (by rw [← ht]; exact octL_len _ _)
  have A1 : Keep _ := ⟨fun w (hG : Glob w) => fpBytes_c a hla hwa w hG⟩
  have A2 : Keep _ := ⟨fun w => refFpBytes_c a hla hwa w⟩
  rw [ht] at A1 A2
  have hgd2 := gd48
  have hgd := gd6
  have HG : Keep (∀ x : World, Below w.heap.size w x → Glob x) := ⟨fun x h => hG.toGlob.keep h⟩
  have HD : Keep (∀ x : World, Below w.heap.size w x → GlobD x) := ⟨fun x h => hG.keep h⟩
  clear hG
  have qa0 : Has (w.alloc (.cells (vals .u64 a) 25)) (w.heap.size) 25 (vals .u64 a) := (Has.new _ _ _)
  have hb0 : Below w.heap.size w (w.alloc (.cells (vals .u64 a) 25)) := ((Below.refl _ _).alloc (by simp <;> omega) _)
  have La : Keep _ := ⟨hla⟩
  have Wa : Keep _ := ⟨hwa⟩
  clear hlo F1 F2 ht hla hwa hby
  go_enter Tryd.func7, Tryd.ntmps7
  go_wp2_with (first
    | (refine store_abs2 (by rfl) 25 (.tmp 8) (.tmp 19) (by rfl) (by rfl) w4.heap.size (vals .u64 o) (by rfl) (by rfl) 25 (vals .u64 Z6) (Has.new' _ rfl _ _) (by rw [vals_size, Lo.out]; kernel_rfl) (by first | rfl | (rw [vals_size, vals_size, Lo.out]; rfl)) vals_one ?_
       intro w5 qy5 hkeep hbg
       have hbe := ((Below.refl w4.heap.size w4).alloc (Nat.le_refl _) (.cells (vals .u64 Z6) 25)).trans hbg
       have qa5 := qa4.keep hbe
       have qx5 := qx4.keep hbe
       have hb5 := hb4.trans (hbe.mono hb4.size)
       clear hkeep hbg hbe hb4 qa4 qx4)
    | (go_at_call 38
       refine (P2.out _ (rd_here hr hb3)).mono ?_
       rintro e w4 ⟨rfl, hq⟩
       have qa4 := qa3.keep hq
       have qx4 := qx3.keep hq
       have hb4 := hb3.trans (hq.mono hb3.size)
       clear hq hb3 qa3 qx3)
    | (refine store_abs2 (by rfl) 25 (.tmp 6) (.tmp 14) (by rfl) (by rfl) w2.heap.size (vals .u64 o) (by rfl) (by rfl) 25 (vals .u64 Z6) (Has.new' _ rfl _ _) (by rw [vals_size, Lo.out]; kernel_rfl) (by first | rfl | (rw [vals_size, vals_size, Lo.out]; rfl)) vals_one ?_
       intro w3 qx3 hkeep hbg
       have hbe := ((Below.refl w2.heap.size w2).alloc (Nat.le_refl _) (.cells (vals .u64 Z6) 25)).trans hbg
       have qa3 := qa2.keep hbe
       have hb3 := hb2.trans (hbe.mono hb2.size)
       clear hkeep hbg hbe hb2 qa2)
    | (go_at_call 37
       refine (P1.out _ (rd_here hr hb1) (HG.out _ hb1)).mono ?_
       rintro e w2 ⟨rfl, hq⟩
       have qa2 := qa1.keep hq
       have hb2 := hb1.trans (hq.mono hb1.size)
       clear hq hb1 qa1)
    | (go_at_call 18
       refine (awake_c _ (HD.out _ hb0)).mono ?_
       rintro e w1 ⟨rfl, hq⟩
       have qa1 := qa0.keep hq
       have hb1 := hb0.trans (hq.mono hb0.size)
       clear hq hb0 qa0))
  refine wp_fam_all (by kernel_rfl) (by kernel_rfl) (fun I hI' fw hf hback => ?_)
  have HGf : Keep (∀ j, Glob (fw j)) := ⟨fun j => HG.out _ (hb5.trans ((hf j).mono hb5.size))⟩
  have HDf : Keep (∀ j, GlobD (fw j)) := ⟨fun j => HD.out _ (hb5.trans ((hf j).mono hb5.size))⟩
  repeat (first
    | (go_big_quiet_want
       refine quiet_load_seg 25 (.tmp 2) (by rfl) (w.heap.size) 0 6 (by rfl) 25 .u64 a a _ (fun w' ⟨i, hi⟩ => by rw [hi]; exact qa5.keep (hf i)) Tryd.underlying25 rfl (by kernel_rfl) (by rw [List.drop_zero, take_all La.out]) (by rw [La.out]; omega) ?_
       simp only [Act.put, List.setIfInBounds_toArray, List.set_cons_zero, List.set_cons_succ]
       go_big_quiet_on)
    | (go_big_quiet_want
       refine quiet_load_seg 25 (.tmp 6) (by rfl) (w2.heap.size) 0 6 (by rfl) 25 .u64 o o _ (fun w' ⟨i, hi⟩ => by rw [hi]; exact qx5.keep (hf i)) Tryd.underlying25 rfl (by kernel_rfl) (by rw [List.drop_zero, take_all Lo.out]) (by rw [Lo.out]; omega) ?_
       simp only [Act.put, List.setIfInBounds_toArray, List.set_cons_zero, List.set_cons_succ]
       go_big_quiet_on)
    | (go_big_quiet_want
       refine quiet_load_seg 25 (.tmp 8) (by rfl) (w4.heap.size) 0 6 (by rfl) 25 .u64 o o _ (fun w' ⟨i, hi⟩ => by rw [hi]; exact qy5.keep (hf i)) Tryd.underlying25 rfl (by kernel_rfl) (by rw [List.drop_zero, take_all Lo.out]) (by rw [Lo.out]; omega) ?_
       simp only [Act.put, List.setIfInBounds_toArray, List.set_cons_zero, List.set_cons_succ]
       go_big_quiet_on)
    | go_big_quiet_step (first | fail | (go_at_call 39; with_reducible exact calls_fam hf hback (A1.out _ (HGf.out _))) | (go_at_call 40; with_reducible exact calls_fam hf hback (A2.out _))))
  refine wpQuiet_nil ?_
  intro w6 hq
  have hb6 := hb5.trans (hq.mono hb5.size)
  clear HDf HGf hf hback hq  hb5 qa5 qx5 qy5
  go_wp2
  go_ret
  exact ⟨rfl, hb6⟩
end Go.Proofs.YtpkfknmpegieaaaDoor.Fp
