/-
  Own text. The contracts of package fp: Bytes, FromBytes.
-/
import Derived.Test.YtpkfknmpegieaaaDoorFpW8
import Derived.Test.YtpkfknmpegieaaaDoorLimbOwnB
import Derived.Test.YtpkfknmpegieaaaDoorMFpR
namespace Go.Proofs.YtpkfknmpegieaaaDoor.Fp
set_option linter.unusedVariables false
set_option linter.unusedSimpArgs false
open Go Go.RowKit Go.Proofs.YtpkfknmpegieaaaDoor.Reg Go.Proofs.YtpkfknmpegieaaaDoor.Base Go.Proofs.YtpkfknmpegieaaaDoor.Limb Go.Proofs.YtpkfknmpegieaaaDoor.Bits

/-- An array loaded out of cells that are read. -/
theorem load_rd {P : Program} {w : World} {ops : Array Oper} {rest : List Oper} {o : Oper} {a : Act} {Q : Exit → Act → World → Prop} (hgd : o.guard = none) (ty : TypeId) (x : Operand) (ho : o.op = .load ty x) (A : Option Addr) (n B : Nat) (hx : a.eval x = .pointer A) (k : IntKind) (xs : List Int) (d : TypeDesc)
    (hr : Rd w B A n k xs) (hn : 0 < n) (hu : P.underlying ty = some d) (hd : (match d with | .struct _ | .array _ _ => true | _ => false) = true)
    (hi : (P.info? ty).map (·.size) = some n) (h : wpList P ops Q rest (a.put o.dst (.agg (vals k xs))) w) : wpList P ops Q (o :: rest) a w := by
  obtain ⟨b, off, rfl, _, _⟩ := hr.at_ hn
  refine wpList_plain hgd fun K hK => ?_
  have hl : (loadCells ⟨b, off, none⟩ (xs.map (Value.int k)).length).run P w = .ok (xs.map (Value.int k)).toArray w := run_loadCells_list (P := P) w ⟨b, off, none⟩ (xs.map (Value.int k)) (hr.src hn)
  have hagg : (isAgg ty).run P w = .ok true w := by
    unfold isAgg
    rw [Sem.run_bind, run_underlying hu w]
    cases d <;> simp_all
  have hrun : (loadVar ty ⟨b, off, none⟩).run P w = .ok (.agg (vals k xs)) w := by
    cases hq : P.info? ty with
    | none => simp [hq] at hi
    | some i =>
      have hs : i.size = n := by simpa [hq] using hi
      have hln := hr.len
      rw [List.length_map, hln] at hl
      simp [loadVar, Sem.run_bind, hagg, sizeOf, typeInfo, hq, hs, hl, vals]
  unfold Oper.wp execOp
  simp only [ho, hx, Instr.loadAt, Instr.sureAddr, Sem.run_bind, Sem.run_pure, Result.andThen_ok, hrun]
  exact hK _ _ h

set_option maxRecDepth 100000 in
set_option maxHeartbeats 1000000 in
theorem fpBytes_c (a : List Int) (hla : a.length = 6) (hwa : Words a) (w : World) (hG : Glob w) : Calls Tryd.prog 39 #[.agg (vals .u64 a)] w fun e w' => e = .returned (.agg (vals .u8 (octL (fe (num a)) 48))) ∧ Below w.heap.size w w' := by
  obtain ⟨o, ho⟩ : ∃ o, octL (fe (num a)) 48 = o := ⟨_, rfl⟩
  have OL : Keep (o.length = 48) := ⟨by rw [← ho]; exact octL_len _ _⟩
  have HO : Keep _ := ⟨ho⟩
  have La : Keep _ := ⟨hla⟩
  have Wa : Keep _ := ⟨hwa⟩
  have qa0 : Has ((w.alloc (.cells (vals .u64 a) 25)).alloc (.cells (vals .u8 (List.replicate 48 0)) 38)) (w.heap.size) 25 (vals .u64 a) := (Has.new _ _ _).alloc _
  have Fa : Keep (Free w.heap.size) := ⟨hG.free (by omega)⟩
  have hR0 : Has ((w.alloc (.cells (vals .u64 a) 25)).alloc (.cells (vals .u8 (List.replicate 48 0)) 38)) (w.heap.size + 1) 38 (vals .u8 (List.replicate 48 0)) := Has.new' _ (by simp) _ _
  have hb0 : Below w.heap.size w ((w.alloc (.cells (vals .u64 a) 25)).alloc (.cells (vals .u8 (List.replicate 48 0)) 38)) := ((Below.refl _ _).alloc (Nat.le_refl _) _).alloc (by simp <;> omega) _
  have HG0 : Keep _ := ⟨hG.keep hb0⟩
  have HAT : Keep (∀ (w : World) (A : Option Addr) (c : Nat), (Instr.arrayAt 38 (.slice A 48 c)).run Tryd.prog w = .ok (.pointer A) w) := ⟨fun w A c => arrayAt_run Tryd.underlying38 (by omega)⟩
  rw [ho]
  clear ho hG hla hwa
  go_enter Tryd.func39, Tryd.ntmps39
  go_wp2_with (first
    | (refine load_rd (by rfl) 38 (.tmp 6) (by rfl) A2 48 w2.heap.size (by rfl) .u8 o _ hF2 (by omega) Tryd.underlying38 rfl (by kernel_rfl) ?_)
    | (refine wpList_store_rowTo rfl 38 (.tmp 2) (.tmp 7) rfl rfl (w.heap.size + 1) (vals .u8 o) rfl rfl _ _ hR2.eq (by rw [vals_size, OL.out]; kernel_rfl) (by rw [vals_size, vals_size, OL.out]; rfl) vals_one ?_)
    | (go_at_call 70
       refine (octets_c (some ⟨w.heap.size, 0, none⟩) 6 6 (fe (num a)) 48 w1.heap.size _ (Rd.of_has (off := 0) qa1 qa1.lt (by rw [List.drop_zero, ← fe_len (num a), List.take_length]) (by rw [fe_len]; exact Nat.le_refl _)) (fe_words _) (Nat.le_refl _) (by omega) (by omega)).mono ?_
       rintro e w2 ⟨A2, c2, rfl, hfr, hq⟩
       rw [HO.out] at hfr
       have hF2 := hfr.rd
       have hR2 := hR1.keep hq
       have hb2 := hb1.trans (hq.mono hb1.size)
       have hat := fun w => HAT.out w A2 c2
       clear hfr hq hb1 hR1 qa1)
    | (go_at_call 52
       refine (fpLower_c w.heap.size 25 a La.out Wa.out Fa.out _ HG0.out qa0).mono ?_
       rintro e w1 ⟨rfl, qa1, ho⟩
       have hR1 := ho.has hR0 (by omega)
       have hb1 := hb0.trans (ho.below (B := w.heap.size) (by omega) hb0.size)
       clear ho hb0 hR0 qa0))
  refine bodyPost_ret (v := .agg (vals .u8 o)) (results_cell_row rfl _ _ (w.heap.size + 1) _ _ _ _ rfl (hR2.row _).eq Tryd.underlying38 rfl (by rw [vals_size, OL.out]; kernel_rfl)) rfl ⟨rfl, below_row hb2 (by omega) _⟩

set_option maxRecDepth 100000 in
set_option maxHeartbeats 1000000 in
theorem fpFromBytes_no (A : Option Addr) (n c : Nat) (w : World) (hG : Glob w) (hn : n ≠ 48) : Calls Tryd.prog 37 #[.slice A n c] w fun e w' => e = .returned (.tuple #[.agg (vals .u64 Z6), .int .i64 40]) ∧ Below w.heap.size w w' := by
  have hR0 : Has (w.alloc (.cells (vals .u64 Z6) 25)) w.heap.size 25 (vals .u64 Z6) := Has.new _ _ _
  have hb0 : Below w.heap.size w (w.alloc (.cells (vals .u64 Z6) 25)) := (Below.refl _ _).alloc (Nat.le_refl _) _
  have hne : ((n : Int) != 48) = true := by rw [bne_iff_ne]; omega
  clear hG
  go_enter Tryd.func37, Tryd.ntmps37
  go_wp2_with (first
    | (refine wpList_buildTo (by rfl) 25 #[] (by rfl) (some 9) (by rfl) (vals .u64 Z6) (by kernel_rfl) ?_)
    | (refine wpList_store_rowTo rfl 25 (.tmp 2) (.tmp 9) rfl rfl w.heap.size (vals .u64 Z6) rfl rfl _ _ hR0.eq (by kernel_rfl) (by rfl) vals_one ?_))
  refine bodyPost_ret (v := .tuple #[.agg (vals .u64 Z6), .int .i64 40]) (results_row_tmp rfl _ _ w.heap.size _ _ _ _ _ rfl rfl (hR0.row _).eq Tryd.underlying25 rfl (by kernel_rfl)) rfl ⟨rfl, below_row hb0 (Nat.le_refl _) _⟩

set_option maxRecDepth 100000 in
set_option maxHeartbeats 2000000 in
theorem fpFromBytes_c (A : Option Addr) (c : Nat) (b : List Int) (B : Nat) (w : World) (hG : Glob w) (hr : Rd w B A 48 .u8 b) (hby : Bytes b) (hB : B ≤ w.heap.size) : Calls Tryd.prog 37 #[.slice A 48 c] w fun e w' => e = .returned (if PP ≤ bnum b then .tuple #[.agg (vals .u64 Z6), .int .i64 41] else .tuple #[.agg (vals .u64 (fe (bnum b))), .int .i64 0]) ∧ Below w.heap.size w w' := by
  have BY : Keep _ := ⟨hby⟩
  have hnw := num_wordsL hby hr.len
  have hR0 : Has (w.alloc (.cells (vals .u64 Z6) 25)) w.heap.size 25 (vals .u64 Z6) := Has.new _ _ _
  have hb0 : Below w.heap.size w (w.alloc (.cells (vals .u64 Z6) 25)) := (Below.refl _ _).alloc (Nat.le_refl _) _
  have hr0 : Rd (w.alloc (.cells (vals .u64 Z6) 25)) B A 48 .u8 b := hr.keep hb0 hB
  have HG0 : Keep _ := ⟨hG.keep hb0⟩
  have HBz : Keep (B ≤ (w.alloc (.cells (vals .u64 Z6) 25)).heap.size) := ⟨Nat.le_trans hB hb0.size⟩
  obtain ⟨ws, hws⟩ : ∃ ws, wordsL b = ws := ⟨_, rfl⟩
  have HW : Keep (wordsL b = ws ∧ Words ws ∧ ws.length = 6 ∧ num ws = bnum b) := ⟨hws, hws ▸ wd_words _ _, by rw [← hws, wordsL, wd_len, hr.len], by rw [← hws, hnw]⟩
  obtain ⟨z, hz⟩ : ∃ z, cmpL ws pL = z := ⟨_, rfl⟩
  have HZ : Keep _ := ⟨hz⟩
  have HAT : Keep (∀ (w : World) (A : Option Addr) (c : Nat), (Instr.arrayAt 25 (.slice A 6 c)).run Tryd.prog w = .ok (.pointer A) w) := ⟨fun w A c => arrayAt_run Tryd.underlying25 (by omega)⟩
  clear hby hnw hws hr hB hG
  have hcmp : (z ≥ 0 ∧ PP ≤ bnum b) ∨ (z < 0 ∧ ¬ PP ≤ bnum b) := by
    rw [← hz, cmpL, num_pL, HW.out.2.2.2]
    by_cases h1 : bnum b < PP
    · rw [if_pos h1]; right; omega
    · rw [if_neg h1]
      left
      refine ⟨?_, by omega⟩
      split <;> omega
  clear hz
  rcases hcmp with ⟨hz, hp⟩ | ⟨hz, hp⟩
  · rw [if_pos hp]
    clear hp
    go_enter Tryd.func37, Tryd.ntmps37
    go_wp2_with (first
      | (go_at_call 67
         refine (words_c A 48 c b B _ hr0 BY.out HBz.out (by omega)).mono ?_
         rintro e w1 ⟨A1, c1, rfl, ho1, hb1⟩
         rw [show (48 + 7) / 8 = 6 from rfl, HW.out.1] at ho1
         rw [show (48 + 7) / 8 = 6 from rfl]
         have hR1 := hR0.keep hb1
         have hbb1 := hb0.trans (hb1.mono hb0.size)
         have hw1 := ho1.rd
         have HG1 : Keep _ := ⟨HG0.out.keep hb1⟩
         clear hR0 hb0 hb1 hr0 ho1)
      | (go_at_call 19
         refine (fpP_c _ HG1.out).mono ?_
         rintro e w2 ⟨rfl, hb2⟩
         have hR2 := hR1.keep hb2
         have hbb2 := hbb1.trans (hb2.mono hbb1.size)
         have hw2 := rd_here hw1 hb2
         clear hR1 hbb1 hb2 hw1)
      | (go_at_call 42
         refine (cmp_c A1 6 c1 ws (some ⟨w2.heap.size, 0, none⟩) 6 6 pL w3.heap.size w3 hw3 HW.out.2.1 (Rd.of_has hP3 hP3.lt rfl (by show 6 ≤ 6; omega)) pL_words (Nat.le_refl _) (by omega) (by omega)).mono ?_
         rintro e w4 ⟨rfl, hb4⟩
         rw [HZ.out]
         have hR4 := hR3.keep hb4
         have hbb4 := hbb3.trans (hb4.mono hbb3.size)
         have hw4 := rd_here hw3 hb4
         have hat := fun w => HAT.out w A1 c1
         clear hR3 hbb3 hb4 hw3 hP3)
      | (refine store_abs2 (by rfl) 25 (.tmp 5) (.tmp 12) (by rfl) (by rfl) w2.heap.size (vals .u64 pL) (by rfl) (by rfl) 25 (vals .u64 Z6) (Has.new' _ rfl _ _) (by kernel_rfl) (by rfl) vals_one ?_
         intro w3 hP3 hkeep hbg
         have hbe := ((Below.refl w2.heap.size w2).alloc (Nat.le_refl _) (.cells (vals .u64 Z6) 25)).trans hbg
         have hR3 := hR2.keep hbe
         have hbb3 := hbb2.trans (hbe.mono hbb2.size)
         have hw3 := rd_here hw2 hbe
         clear hkeep hbg hbe hR2 hbb2 hw2)
      | (refine wpList_buildTo (by rfl) 25 #[] (by rfl) (some 17) (by rfl) (vals .u64 Z6) (by kernel_rfl) ?_)
      | (refine wpList_store_rowTo rfl 25 (.tmp 2) (.tmp 17) rfl rfl w.heap.size (vals .u64 Z6) rfl rfl _ _ hR4.eq (by kernel_rfl) (by rfl) vals_one ?_))
    refine bodyPost_ret (v := .tuple #[.agg (vals .u64 Z6), .int .i64 41]) (results_row_tmp rfl _ _ w.heap.size _ _ _ _ _ rfl rfl (hR4.row _).eq Tryd.underlying25 rfl (by kernel_rfl)) rfl ⟨rfl, below_row hbb4 (Nat.le_refl _) _⟩
  · rw [if_neg hp]
    have hz0 : ¬ z ≥ 0 := by omega
    have FIN : Keep (fe (bnum b) = ws) := ⟨by rw [← HW.out.2.2.2]; exact (fe_below HW.out.2.1 HW.out.2.2.1 (by rw [HW.out.2.2.2]; omega)).symm⟩
    rw [FIN.out]
    clear hp
    go_enter Tryd.func37, Tryd.ntmps37
    go_wp2_with (first
      | (go_at_call 67
         refine (words_c A 48 c b B _ hr0 BY.out HBz.out (by omega)).mono ?_
         rintro e w1 ⟨A1, c1, rfl, ho1, hb1⟩
         rw [show (48 + 7) / 8 = 6 from rfl, HW.out.1] at ho1
         rw [show (48 + 7) / 8 = 6 from rfl]
         have hR1 := hR0.keep hb1
         have hbb1 := hb0.trans (hb1.mono hb0.size)
         have hw1 := ho1.rd
         have HG1 : Keep _ := ⟨HG0.out.keep hb1⟩
         clear hR0 hb0 hb1 hr0 ho1)
      | (go_at_call 19
         refine (fpP_c _ HG1.out).mono ?_
         rintro e w2 ⟨rfl, hb2⟩
         have hR2 := hR1.keep hb2
         have hbb2 := hbb1.trans (hb2.mono hbb1.size)
         have hw2 := rd_here hw1 hb2
         clear hR1 hbb1 hb2 hw1)
      | (go_at_call 42
         refine (cmp_c A1 6 c1 ws (some ⟨w2.heap.size, 0, none⟩) 6 6 pL w3.heap.size w3 hw3 HW.out.2.1 (Rd.of_has hP3 hP3.lt rfl (by show 6 ≤ 6; omega)) pL_words (Nat.le_refl _) (by omega) (by omega)).mono ?_
         rintro e w4 ⟨rfl, hb4⟩
         rw [HZ.out]
         have hR4 := hR3.keep hb4
         have hbb4 := hbb3.trans (hb4.mono hbb3.size)
         have hw4 := rd_here hw3 hb4
         have hat := fun w => HAT.out w A1 c1
         clear hR3 hbb3 hb4 hw3 hP3)
      | (refine store_abs2 (by rfl) 25 (.tmp 5) (.tmp 12) (by rfl) (by rfl) w2.heap.size (vals .u64 pL) (by rfl) (by rfl) 25 (vals .u64 Z6) (Has.new' _ rfl _ _) (by kernel_rfl) (by rfl) vals_one ?_
         intro w3 hP3 hkeep hbg
         have hbe := ((Below.refl w2.heap.size w2).alloc (Nat.le_refl _) (.cells (vals .u64 Z6) 25)).trans hbg
         have hR3 := hR2.keep hbe
         have hbb3 := hbb2.trans (hbe.mono hbb2.size)
         have hw3 := rd_here hw2 hbe
         clear hkeep hbg hbe hR2 hbb2 hw2)
      | (refine load_rd (by rfl) 25 (.tmp 19) (by rfl) A1 6 w4.heap.size (by rfl) .u64 ws _ hw4 (by omega) Tryd.underlying25 rfl (by kernel_rfl) ?_)
      | (refine wpList_store_rowTo rfl 25 (.tmp 2) (.tmp 20) rfl rfl w.heap.size (vals .u64 ws) rfl rfl _ _ hR4.eq (by rw [vals_size, HW.out.2.2.1]; kernel_rfl) (by rw [vals_size, vals_size, HW.out.2.2.1]; rfl) vals_one ?_))
    refine bodyPost_ret (v := .tuple #[.agg (vals .u64 ws), .int .i64 0]) (results_row_tmp rfl _ _ w.heap.size _ _ _ _ _ rfl rfl (hR4.row _).eq Tryd.underlying25 rfl (by rw [vals_size, HW.out.2.2.1]; kernel_rfl)) rfl ⟨rfl, below_row hbb4 (Nat.le_refl _) _⟩
end Go.Proofs.YtpkfknmpegieaaaDoor.Fp
