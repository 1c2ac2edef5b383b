/-
  Own text. The contracts of layer 6's landed package: R, remainder, Reduce, Add, Neg, Mul, FromOctets.
-/
import Derived.Test.YthaoebamnlmfpaaFrRef5
import Derived.Test.YthaoebamnlmfpaaLimbOwnA
import Derived.Test.YthaoebamnlmfpaaLimbOwnC
import Derived.Test.YthaoebamnlmfpaaLimbOwnE
import Derived.Test.YthaoebamnlmfpaaLimbOwn
import Derived.Test.YthaoebamnlmfpaaRegB
import Derived.Test.YthaoebamnlmfpaaRegC
import Derived.Test.YthaoebamnlmfpaaRegF
namespace Go.Proofs.Ythaoebamnlmfpaa.Fr
set_option linter.unusedVariables false
set_option linter.unusedSimpArgs false
open Go Go.RowKit Go.Proofs.Ythaoebamnlmfpaa.Num Go.Proofs.Ythaoebamnlmfpaa.Reg Go.Proofs.Ythaoebamnlmfpaa.Base Go.Proofs.Ythaoebamnlmfpaa.Limb Go.Proofs.Ythaoebamnlmfpaa.Bits

/-- An array loaded out of cells that are read. -/
theorem load_rd_ {P : Program} {w : World} {ops : Array Oper} {rest : List Oper} {o : Oper} {a : Act} {Q : Exit → Act → World → Prop} (hgd : o.guard = none) (ty : TypeId) (x : Operand) (ho : o.op = .load ty x) (A : Option Addr) (n B : Nat) (hx : a.eval x = .pointer A) (k : IntKind) (xs : List Int) (d : TypeDesc)
    (hr : Rd w B A n k xs) (hn : 0 < n) (hu : P.underlying ty = some d) (hd : (match d with | .struct _ | .array _ _ => true | _ => false) = true)
    (hi : (P.info? ty).map (·.size) = some n) (h : wpList P ops Q rest (a.put o.dst (.agg (vals k xs))) w) : wpList P ops Q (o :: rest) a w := by
  obtain ⟨b, off, rfl, _, _⟩ := hr.at_ hn
  refine wpList_plain hgd fun K hK => ?_
  have hl : (loadCells ⟨b, off, none⟩ (xs.map (Value.int k)).length).run P w = .ok (xs.map (Value.int k)).toArray w := run_loadCells_list (P := P) w ⟨b, off, none⟩ (xs.map (Value.int k)) (hr.src hn)
  have hagg : (isAgg ty).run P w = .ok true w := by
    unfold isAgg
    rw [Sem.run_bind, run_underlying hu w]
    cases d <;> simp_all
  have hrun : (loadVar ty ⟨b, off, none⟩).run P w = .ok (.agg (vals k xs)) w := by
    cases hq : P.info? ty with
    | none => simp [hq] at hi
    | some i =>
      have hs : i.size = n := by simpa [hq] using hi
      have hln := hr.len
      rw [List.length_map, hln] at hl
      simp [loadVar, Sem.run_bind, hagg, sizeOf, typeInfo, hq, hs, hl, vals]
  unfold Oper.wp execOp
  simp only [ho, hx, Instr.loadAt, Instr.sureAddr, Sem.run_bind, Sem.run_pure, Result.andThen_ok, hrun]
  exact hK _ _ h

set_option maxRecDepth 100000 in
set_option maxHeartbeats 2000000 in
theorem addOwn_c (A : Option Addr) (n c : Nat) (a : List Int) (A' : Option Addr) (n' c' : Nat) (b : List Int) (B : Nat) (w : World) (hr : Rd w B A n .u64 a) (hwa : Words a) (hr' : Rd w B A' n' .u64 b) (hwb : Words b) (hB : B ≤ w.heap.size) (hn : n ≤ 10000) (hn' : n' ≤ 10000) :
    Calls Try.prog 35 #[.slice A n c, .slice A' n' c'] w fun e w' => ∃ A'' c'', e = .returned (.tuple #[.slice A'' (max n n') c'', .int .u64 (addC a b)]) ∧ Own w' w.heap.size 23 .u64 A'' (max n n') c'' (addL a b) ∧ Below w.heap.size w w' := by
  have HL : Keep ((addL a b).length = max n n') := ⟨by rw [addL, wd_len, hr.len, hr'.len]⟩
  obtain ⟨M, hM⟩ : ∃ M, max n n' = M := ⟨_, rfl⟩
  have HM : Keep _ := ⟨hM⟩
  have hMb : M ≤ 10000 := by omega
  rw [hM]
  clear hM
  go_enter Try.func35, Try.ntmps35
  go_wp2_with (go_at_call 54; refine (byAdd_c A n c a A' n' c' b B w hr hwa hr' hwb hB hn hn').mono ?_; rintro e w1 ⟨rfl, hD1, hb1⟩; rw [HM.out])
  go_ret2
  have := Own.of_has (base := w.heap.size) hD1 (by omega) (by rw [HL.out, HM.out]; unfold maxLen; omega)
  rw [HL.out, HM.out] at this
  exact ⟨some ⟨w.heap.size + 2, 0, none⟩, M, rfl, this, hb1⟩

set_option maxRecDepth 100000 in
set_option maxHeartbeats 2000000 in
theorem frR_c (w : World) : Calls Try.prog 12 #[] w fun e w' => e = .returned (.agg (vals .u64 mL)) ∧ Below w.heap.size w w' := by
  have hR : Has (w.alloc (.cells (vals .u64 Z4) 25)) w.heap.size 25 (vals .u64 Z4) := Has.new _ _ _
  have hb : Below w.heap.size w (w.alloc (.cells (vals .u64 Z4) 25)) := (Below.refl _ _).alloc (Nat.le_refl _) _
  go_enter Try.func12, Try.ntmps12
  go_wp2_with (first
    | (refine wpList_buildFlatArrTo rfl 25 23 4 _ rfl .u64 mL (some 1) rfl Try.underlying25 (by kernel_rfl) (by kernel_rfl) rfl ?_)
    | (refine wpList_store_rowTo rfl 25 (.tmp 0) (.tmp 1) rfl rfl w.heap.size (vals .u64 mL) rfl rfl _ _ hR.eq (by kernel_rfl) (by rfl) vals_one ?_))
  refine bodyPost_ret (v := .agg (vals .u64 mL)) (results_cell_row rfl _ _ w.heap.size _ _ _ _ rfl (hR.row _).eq Try.underlying25 rfl (by kernel_rfl)) rfl ⟨rfl, below_row hb (Nat.le_refl _) _⟩

set_option maxRecDepth 100000 in
set_option maxHeartbeats 2000000 in
theorem frRem_c (A : Option Addr) (n c : Nat) (l : List Int) (B : Nat) (w : World) (hr : Rd w B A n .u64 l) (hwl : Words l) (hB : B ≤ w.heap.size) (hn : n ≤ 10000) : Calls Try.prog 37 #[.slice A n c] w fun e w' => e = .returned (.agg (vals .u64 (fr (num l)))) ∧ Below w.heap.size w w' := by
  have LZ : Keep (Z4.length = 4) := ⟨rfl⟩
  have LM : Keep (mL.length = 4) := ⟨rfl⟩
  have HW : Keep (Words l) := ⟨hwl⟩
  have HN : Keep (n ≤ 10000) := ⟨hn⟩
  obtain ⟨r, hr_⟩ : ∃ o, fr (num l) = o := ⟨_, rfl⟩
  have Lr : Keep (r.length = 4) := ⟨by rw [← hr_]; exact fr_len _⟩
  have er : wd 4 (num l % num mL) = r := by rw [num_mL, ← hr_]; rfl
  have HAT : Keep (∀ (w : World) (A : Option Addr) (c : Nat), (Instr.arrayAt 25 (.slice A 4 c)).run Try.prog w = .ok (.pointer A) w) := ⟨fun w A c => arrayAt_run Try.underlying25 (by omega)⟩
  have ER : Keep _ := ⟨er⟩
  rw [hr_]
  clear er hr_
  obtain ⟨S, hS⟩ : ∃ S, w.heap.size = S := ⟨_, rfl⟩
  have qo0 : Has (w.alloc (.cells (vals .u64 Z4) 25)) (S) 25 (vals .u64 Z4) := by exact (Has.new' _ hS.symm _ _)
  have hb0 : Below S w (w.alloc (.cells (vals .u64 Z4) 25)) := by rw [← hS]; exact ((Below.refl _ _).alloc (Nat.le_refl _) _)
  have hsz0 : (w.alloc (.cells (vals .u64 Z4) 25)).heap.size = S + 1 := by simp only [World.size_alloc, hS]
  have HS0 : Keep (S ≤ w.heap.size) := ⟨by omega⟩
  have HSS : Keep (∀ x : World, Below S w x → S ≤ x.heap.size) := ⟨fun x hb => Nat.le_trans HS0.out hb.size⟩
  rw [hS]
  have HRD : Keep (∀ x : World, Below S w x → Rd x x.heap.size A n .u64 l) := ⟨fun x hb => (hr.keep hb (by omega)).more (Nat.le_trans hB (Nat.le_trans (by omega) (HSS.out _ hb)))⟩
  clear hr hwl hB hn
  go_enter Try.func37, Try.ntmps37
  go_wp2_with (first
    | (refine store_abs2 (by rfl) 25 (.tmp 2) (.tmp 15) (by rfl) (by rfl) (S) (vals .u64 r) (by rfl) (by rfl) 25 _ qo3 (by rw [vals_size, Lr.out]; kernel_rfl) (by first | rfl | (rw [vals_size, vals_size, Lr.out]; rfl) | rw [vals_size, vals_size, Lr.out, LZ.out]) vals_one ?_
       intro w4 qo4 hkeep hbg
       have qm4 := hkeep _ _ _ qm3 (Nat.ne_of_gt Nom.out)
       have hb4 := hb3.trans (hbg.mono (by omega))
       clear hkeep hbg hb3 qo3 qm3)
    | (refine load_rd_ (by rfl) 25 (.tmp 14) (by rfl) A3 4 w3.heap.size (by rfl) .u64 r _ xr3 (by omega) Try.underlying25 rfl (by kernel_rfl) ?_)
    | (have hq0 := hb2
       clear hq0
       go_at_call 59
       refine (mod_c A n c l (some ⟨w1.heap.size, 0, none⟩) 4 4 mL w2.heap.size w2 (HRD.out _ hb2) HW.out (Rd.of_has qm2 qm2.lt (by rfl) (by decide)) mL_words (Nat.le_refl _) HN.out (by omega) (by omega) (by rw [num_mL]; decide +kernel)).mono ?_
       rintro e w3 ⟨A3, c3, rfl, ho, hq⟩
       have qo3 := qo2.keep hq
       have qm3 := qm2.keep hq
       have hb3 := hb2.trans (hq.mono (HSS.out _ hb2))
       rw [ER.out] at ho
       have xr3 := ho.rd
       have hat := fun w => HAT.out w A3 c3
       clear ho
       clear hq hb2 qo2 qm2)
    | (refine store_abs2 (by rfl) 25 (.tmp 3) (.tmp 6) (by rfl) (by rfl) (w1.heap.size) (vals .u64 mL) (by rfl) (by rfl) 25 (vals .u64 Z4) (Has.new' _ rfl _ _) (by rw [vals_size, LM.out]; kernel_rfl) (by first | rfl | (rw [vals_size, vals_size, LM.out]; rfl)) vals_one ?_
       intro w2 qm2 hkeep hbg
       have hbe := ((Below.refl (w1).heap.size (w1)).alloc (Nat.le_refl _) (.cells (vals .u64 Z4) 25)).trans hbg
       have Nom : Keep (S < w1.heap.size) := ⟨qo1.lt⟩
       have Mm : Keep (S ≤ w1.heap.size) := ⟨HSS.out _ hb1⟩
       have qo2 := qo1.keep hbe
       have hb2 := hb1.trans (hbe.mono (HSS.out _ hb1))
       clear hkeep hbg hbe hb1 qo1)
    | (have hq0 := hb0
       clear hq0
       go_at_call 12
       refine (frR_c _).mono ?_
       rintro e w1 ⟨rfl, hq⟩
       have qo1 := qo0.keep hq
       have hb1 := hb0.trans (hq.mono (HSS.out _ hb0))
       clear hq hb0 qo0))
  refine bodyPost_ret (v := .agg (vals .u64 r)) (results_cell_row rfl _ _ (S) _ _ _ _ rfl qo4.eq Try.underlying25 rfl (by rw [vals_size, Lr.out]; kernel_rfl)) rfl ⟨rfl, hb4⟩

set_option maxRecDepth 100000 in
set_option maxHeartbeats 2000000 in
theorem frReduce_c (a : List Int) (hla : a.length = 4) (hwa : Words a) (w : World) : Calls Try.prog 14 #[.agg (vals .u64 a)] w fun e w' => e = .returned (.agg (vals .u64 (fr (num a)))) ∧ Below w.heap.size w w' := by
  have La : Keep (a.length = 4) := ⟨hla⟩
  have Va : Keep (Words a) := ⟨hwa⟩
  have LZ : Keep (Z4.length = 4) := ⟨rfl⟩
  have LM : Keep (mL.length = 4) := ⟨rfl⟩
  have P1 : Keep (∀ (y : World) (g : Nat) (t : TypeId), Has y g t (vals .u64 a) → Calls Try.prog 37 #[.slice (some ⟨g, 0, none⟩) 4 4] y fun e y' => e = .returned (.agg (vals .u64 (fr (num a)))) ∧ Below y.heap.size y y') := ⟨fun y g t h => frRem_c (some ⟨g, 0, none⟩) 4 4 a y.heap.size y (Rd.of_has h h.lt (by rw [List.drop_zero, take_all La.out]) (by rw [La.out]; omega)) Va.out (Nat.le_refl _) (by omega)⟩
  obtain ⟨r, hr⟩ : ∃ o, fr (num a) = o := ⟨_, rfl⟩
  have Lr : Keep (r.length = 4) := ⟨by rw [← hr]; exact fr_len _⟩
  rw [hr] at P1 ⊢
  clear hr
  obtain ⟨S, hS⟩ : ∃ S, w.heap.size = S := ⟨_, rfl⟩
  have qa0 : Has ((w.alloc (.cells (vals .u64 a) 25)).alloc (.cells (vals .u64 Z4) 25)) (S) 25 (vals .u64 a) := by exact ((Has.new' _ hS.symm _ _).alloc _)
  have qo0 : Has ((w.alloc (.cells (vals .u64 a) 25)).alloc (.cells (vals .u64 Z4) 25)) (S + 1) 25 (vals .u64 Z4) := by exact (Has.new' _ (by simp only [World.size_alloc, hS]) _ _)
  have hb0 : Below S w ((w.alloc (.cells (vals .u64 a) 25)).alloc (.cells (vals .u64 Z4) 25)) := by rw [← hS]; exact (((Below.refl _ _).alloc (Nat.le_refl _) _).alloc (by simp <;> omega) _)
  have hsz0 : ((w.alloc (.cells (vals .u64 a) 25)).alloc (.cells (vals .u64 Z4) 25)).heap.size = S + 2 := by simp only [World.size_alloc, hS]
  have HS0 : Keep (S ≤ w.heap.size) := ⟨by omega⟩
  have HSS : Keep (∀ x : World, Below S w x → S ≤ x.heap.size) := ⟨fun x hb => Nat.le_trans HS0.out hb.size⟩
  rw [hS]
  clear hla hwa
  go_enter Try.func14, Try.ntmps14
  go_wp2_with (first
    | (refine store_abs2 (by rfl) 25 (.tmp 2) (.tmp 4) (by rfl) (by rfl) (S + 1) (vals .u64 r) (by rfl) (by rfl) 25 _ qo1 (by rw [vals_size, Lr.out]; kernel_rfl) (by first | rfl | (rw [vals_size, vals_size, Lr.out]; rfl) | rw [vals_size, vals_size, Lr.out, LZ.out]) vals_one ?_
       intro w2 qo2 hkeep hbg
       have qa2 := hkeep _ _ _ qa1 (by omega)
       have hb2 := hb1.trans (hbg.mono (by omega))
       clear hkeep hbg hb1 qa1 qo1)
    | (have hq0 := hb0
       clear hq0
       go_at_call 37
       refine (P1.out _ _ _ qa0).mono ?_
       rintro e w1 ⟨rfl, hq⟩
       have qa1 := qa0.keep hq
       have qo1 := qo0.keep hq
       have hb1 := hb0.trans (hq.mono (HSS.out _ hb0))
       clear hq hb0 qa0 qo0))
  refine bodyPost_ret (v := .agg (vals .u64 r)) (results_cell_row rfl _ _ (S + 1) _ _ _ _ rfl qo2.eq Try.underlying25 rfl (by rw [vals_size, Lr.out]; kernel_rfl)) rfl ⟨rfl, hb2⟩

set_option maxRecDepth 100000 in
set_option maxHeartbeats 2000000 in
theorem frAdd_c (a : List Int) (hla : a.length = 4) (hwa : Words a) (b : List Int) (hlb : b.length = 4) (hwb : Words b) (w : World) : Calls Try.prog 16 #[.agg (vals .u64 a), .agg (vals .u64 b)] w fun e w' => e = .returned (.agg (vals .u64 (fr (num a + num b)))) ∧ Below w.heap.size w w' := by
  have La : Keep (a.length = 4) := ⟨hla⟩
  have Va : Keep (Words a) := ⟨hwa⟩
  have Lb : Keep (b.length = 4) := ⟨hlb⟩
  have Vb : Keep (Words b) := ⟨hwb⟩
  have LZ : Keep (Z4.length = 4) := ⟨rfl⟩
  have LM : Keep (mL.length = 4) := ⟨rfl⟩
  obtain ⟨r, hr⟩ : ∃ o, fr (num a + num b) = o := ⟨_, rfl⟩
  have Lr : Keep (r.length = 4) := ⟨by rw [← hr]; exact fr_len _⟩
  obtain ⟨d, hd⟩ : ∃ d, addL a b = d := ⟨_, rfl⟩
  obtain ⟨cy, hcy⟩ : ∃ d, addC a b = d := ⟨_, rfl⟩
  have hd' : d = wd 4 (num a + num b) := by rw [← hd, addL, hla, hlb]; rfl
  have hcy' : cy = (num a + num b) / wp 4 := by rw [← hcy, addC, hla, hlb]; rfl
  have Ld : Keep (d.length = 4) := ⟨by rw [hd']; exact wd_len _ _⟩
  have na := num4 hwa hla
  have nb := num4 hwb hlb
  have hcb : 0 ≤ cy ∧ cy ≤ 18446744073709551615 := by
    rw [hcy']
    refine ⟨Int.ediv_nonneg (by omega) (by omega), ?_⟩
    have : (num a + num b) / wp 4 < 2 := Int.ediv_lt_of_lt_mul (by omega) (by omega)
    omega
  have hnum : num (d ++ [cy]) = num a + num b := by
    rw [num_snoc, Ld.out, hd', num_wd, hcy', Int.emod_add_mul_ediv]
  have hwd : Words (d ++ [cy]) := words_append (by rw [hd']; exact wd_words _ _) (words_one hcb.1 hcb.2)
  have P2 : Keep (∀ (y : World) (A : Option Addr) (c : Nat), Rd y y.heap.size A 5 .u64 (d ++ [cy]) → Calls Try.prog 37 #[.slice A 5 c] y fun e y' => e = .returned (.agg (vals .u64 r)) ∧ Below y.heap.size y y') := ⟨fun y A c h => by
    have h1 := frRem_c A 5 c (d ++ [cy]) y.heap.size y h hwd (Nat.le_refl _) (by omega)
    rw [hnum, hr] at h1
    exact h1⟩
  have P1 : Keep (∀ (y : World) (g g' : Nat), Has y g 25 (vals .u64 a) → Has y g' 25 (vals .u64 b) → Calls Try.prog 35 #[.slice (some ⟨g, 0, none⟩) 4 4, .slice (some ⟨g', 0, none⟩) 4 4] y fun e y' => ∃ A'' c'', e = .returned (.tuple #[.slice A'' 4 c'', .int .u64 cy]) ∧ Own y' y.heap.size 23 .u64 A'' 4 c'' d ∧ Below y.heap.size y y') := ⟨fun y g g' h h' => by
    have h1 := addOwn_c (some ⟨g, 0, none⟩) 4 4 a (some ⟨g', 0, none⟩) 4 4 b y.heap.size y (Rd.of_has h h.lt (by rw [List.drop_zero, take_all La.out]) (by rw [La.out]; omega)) Va.out (Rd.of_has h' h'.lt (by rw [List.drop_zero, take_all Lb.out]) (by rw [Lb.out]; omega)) Vb.out (Nat.le_refl _) (by omega) (by omega)
    rw [hd, hcy, Nat.max_self] at h1
    exact h1⟩
  have hlen : Keep ((d ++ [cy]).length = 5) := ⟨by rw [List.length_append, Ld.out]; rfl⟩
  rw [hr]
  clear hr hd hcy hd' hcy' na nb hcb hnum hwd
  obtain ⟨S, hS⟩ : ∃ S, w.heap.size = S := ⟨_, rfl⟩
  have qa0 : Has (((w.alloc (.cells (vals .u64 a) 25)).alloc (.cells (vals .u64 b) 25)).alloc (.cells (vals .u64 Z4) 25)) (S) 25 (vals .u64 a) := by exact (((Has.new' _ hS.symm _ _).alloc _).alloc _)
  have qb0 : Has (((w.alloc (.cells (vals .u64 a) 25)).alloc (.cells (vals .u64 b) 25)).alloc (.cells (vals .u64 Z4) 25)) (S + 1) 25 (vals .u64 b) := by exact ((Has.new' _ (by simp only [World.size_alloc, hS]) _ _).alloc _)
  have qo0 : Has (((w.alloc (.cells (vals .u64 a) 25)).alloc (.cells (vals .u64 b) 25)).alloc (.cells (vals .u64 Z4) 25)) (S + 2) 25 (vals .u64 Z4) := by exact (Has.new' _ (by simp only [World.size_alloc, hS]) _ _)
  have hb0 : Below S w (((w.alloc (.cells (vals .u64 a) 25)).alloc (.cells (vals .u64 b) 25)).alloc (.cells (vals .u64 Z4) 25)) := by rw [← hS]; exact ((((Below.refl _ _).alloc (Nat.le_refl _) _).alloc (by simp <;> omega) _).alloc (by simp <;> omega) _)
  have hsz0 : (((w.alloc (.cells (vals .u64 a) 25)).alloc (.cells (vals .u64 b) 25)).alloc (.cells (vals .u64 Z4) 25)).heap.size = S + 3 := by simp only [World.size_alloc, hS]
  have HS0 : Keep (S ≤ w.heap.size) := ⟨by omega⟩
  have HSS : Keep (∀ x : World, Below S w x → S ≤ x.heap.size) := ⟨fun x hb => Nat.le_trans HS0.out hb.size⟩
  rw [hS]
  clear hla hwa hlb hwb
  go_enter Try.func16, Try.ntmps16
  go_wp2
  change Code.wp _ _ _ _ ((((w.alloc (.cells (vals .u64 a) 25)).alloc (.cells (vals .u64 b) 25)).alloc (.cells (vals .u64 Z4) 25)))
  obtain ⟨w0, hw0⟩ : ∃ x, (((w.alloc (.cells (vals .u64 a) 25)).alloc (.cells (vals .u64 b) 25)).alloc (.cells (vals .u64 Z4) 25)) = x := ⟨_, rfl⟩
  rw [hw0] at hb0 qa0 qb0 qo0 ⊢
  clear hw0
  refine wp_one [0, 1] 2 (by kernel_rfl) (by rfl) (by kernel_rfl) (by kernel_rfl) (fun _ _ d _ _ h => by cases d <;> exact h) ?_
  simp only [List.filterMap_cons, List.filterMap_nil, List.getElem?_cons_zero, List.getElem?_cons_succ]
  refine ⟨_, Or.inl ⟨by rfl, fun w => (by go_simp; with_reducible rfl)⟩, ?_⟩
  simp only [Act.put, List.setIfInBounds_toArray, List.set_cons_zero, List.set_cons_succ]
  refine ⟨_, Or.inl ⟨by rfl, fun w => (by go_simp; with_reducible rfl)⟩, ?_⟩
  simp only [Act.put, List.setIfInBounds_toArray, List.set_cons_zero, List.set_cons_succ]
  refine ⟨_, rfl, ?_⟩
  refine wpList_own (by rfl) ?_
  have hbd : Below w0.heap.size w0 w0.drew := ⟨rfl, rfl, rfl, Nat.le_refl _, fun _ _ => rfl⟩
  have qa1 := qa0.keep hbd
  have qb1 := qb0.keep hbd
  have qo1 := qo0.keep hbd
  have hb1 := hb0.trans (hbd.mono (HSS.out _ hb0))
  clear hbd hb0 qa0 qb0 qo0
  generalize w0.drew = w1 at *
  have hol : S + 2 < w1.heap.size := qo1.lt
  have hkS : S ≤ w1.heap.size := HSS.out _ hb1
  go_wp2_with (first
    | (have hq0 := hb1
       clear hq0
       go_at_call 35
       refine (P1.out _ _ _ qa1 qb1).mono ?_
       rintro e w2 ⟨A3, c3, rfl, ho, hq⟩
       have qa2 := qa1.keep hq
       have qb2 := qb1.keep hq
       have qo2 := qo1.keep hq
       have hb2 := hb1.trans (hq.mono (HSS.out _ hb1))
       have hk2 := hq.size
       clear hq hb1 qa1 qb1 qo1))
  simp only [quietThen, List.drop_succ_cons, List.drop_zero]
  intro I hI' fw hf hback
  repeat (go_big_quiet_step (fail))
  refine wpQuiet_nil ?_
  intro w3 hq
  have qa3 := qa2.keep hq
  have qb3 := qb2.keep hq
  have qo3 := qo2.keep hq
  have hb3 := hb2.trans (hq.mono (HSS.out _ hb2))
  have ho2 := ho.keep hq
  have hkk : w1.heap.size ≤ w3.heap.size := Nat.le_trans hk2 hq.size
  clear hf hback hq ho hb2 qa2 qb2 qo2
  go_wp2_with (first
    | (refine store_abs2 (by rfl) 25 (.tmp 4) (.tmp 17) (by rfl) (by rfl) (S + 2) (vals .u64 r) (by rfl) (by rfl) 25 _ qo5 (by rw [vals_size, Lr.out]; kernel_rfl) (by first | rfl | (rw [vals_size, vals_size, Lr.out]; rfl) | rw [vals_size, vals_size, Lr.out, LZ.out]) vals_one ?_
       intro w6 qo6 hkeep hbg
       have hb6 := hb5.trans (hbg.mono (by omega))
       clear hkeep hbg hb5 qo5)
    | (have hq0 := hb4
       clear hq0
       go_at_call 37
       refine (P2.out _ _ _ xs4).mono ?_
       rintro e w5 ⟨rfl, hq⟩
       have qo5 := qo4.keep hq
       have hb5 := hb4.trans (hq.mono (HSS.out _ hb4))
       clear hq hb4 qo4)
    | (refine append_abs (by rfl) (.tmp 13) (.tmp 15) 39 (by rfl) w1.heap.size 23 .u64 8 Try.underlying39 u64Elem A3 4 c3 d (by rfl) (ho2.keep ((Below.refl w3.heap.size w3).alloc (Nat.le_refl _) _)) (w3.heap.size + 1) (some ⟨w3.heap.size, 0, none⟩) 1 1 [cy] (by rfl) (Rd.of_has (Has.new w3 23 (vals .u64 [cy])) (by omega) (by rfl) (by show 0 + 1 ≤ 1; omega)) 5 (by rfl) (d ++ [cy]) (by rfl) (by omega) (by unfold maxLen; omega) (by have := hkk; simp; omega) ?_
       intro A5 c5 w4 ho5 hbx
       have hbx' := hbx.mono hkS
       have hb4 := (hb3.alloc (HSS.out _ hb3) (.cells (vals .u64 [cy]) 23)).trans hbx'
       have xs4 := ho5.rd
       have qo4 := (qo3.alloc (.cells (vals .u64 [cy]) 23)).below hbx hol
       clear hbx hbx' hb3 ho5 qo3))
  refine bodyPost_ret (v := .agg (vals .u64 r)) (results_cell_row rfl _ _ (S + 2) _ _ _ _ rfl qo6.eq Try.underlying25 rfl (by rw [vals_size, Lr.out]; kernel_rfl)) rfl ⟨rfl, hb6⟩

set_option maxRecDepth 100000 in
set_option maxHeartbeats 2000000 in
theorem frNeg_c (a : List Int) (hla : a.length = 4) (hwa : Words a) (w : World) : Calls Try.prog 18 #[.agg (vals .u64 a)] w fun e w' => e = .returned (.agg (vals .u64 (fr (-num a)))) ∧ Below w.heap.size w w' := by
  have P0 : Keep (∀ x : World, _) := ⟨fun x => frR_c x⟩
  have P1 : Keep (∀ x : World, _) := ⟨fun x => frReduce_c a hla hwa x⟩
  have wx : Words (fr (num a)) := fr_words _
  have hxn : num (fr (num a)) = num a % RR := num_fr _
  obtain ⟨x, hx⟩ : ∃ o, fr (num a) = o := ⟨_, rfl⟩
  have Lx : Keep (x.length = 4) := ⟨by rw [← hx]; exact fr_len _⟩
  obtain ⟨r, hr⟩ : ∃ o, fr (-num a) = o := ⟨_, rfl⟩
  have Lr : Keep (r.length = 4) := ⟨by rw [← hr]; exact fr_len _⟩
  rw [hx] at P1 wx hxn
  have hsub : subL mL x = wd 4 (RR - num x) := by rw [subL, Lx.out, num_mL]; rfl
  have hfr : fr (num (subL mL x)) = r := by
    have hb := fr_mod (num a)
    have hp := RR_lt
    rw [hsub, num_wd_of (by omega) (by omega), ← hr]
    exact fr_congr (by rw [hxn, show RR - num a % RR = -num a + RR * (num a / RR + 1) by rw [Int.mul_add, Int.mul_one]; have := Int.mul_ediv_add_emod (num a) RR; omega, Int.add_mul_emod_self_left])
  obtain ⟨d, hd⟩ : ∃ d, subL mL x = d := ⟨_, rfl⟩
  have wd_ : Words d := by rw [← hd, hsub]; exact wd_words _ _
  rw [hd] at hfr
  have P2 : Keep (∀ (y : World) (g g' : Nat), Has y g 25 (vals .u64 mL) → Has y g' 25 (vals .u64 x) → Calls Try.prog 34 #[.slice (some ⟨g, 0, none⟩) 4 4, .slice (some ⟨g', 0, none⟩) 4 4] y fun e y' => ∃ A'' c'', e = .returned (.tuple #[.slice A'' 4 c'', .int .u64 (subC mL x)]) ∧ Frs y' y.heap.size A'' 4 .u64 d ∧ Below y.heap.size y y') := ⟨fun y g g' h h' => by
    have h1 := sub_c (some ⟨g, 0, none⟩) 4 4 mL (some ⟨g', 0, none⟩) 4 4 x y.heap.size y (Rd.of_has h h.lt (by rfl) (by decide)) mL_words (Rd.of_has h' h'.lt (by rw [List.drop_zero, take_all Lx.out]) (by rw [Lx.out]; omega)) wx (Nat.le_refl _) (by omega) (by omega)
    rw [hd, Nat.max_self] at h1
    exact h1⟩
  have P3 : Keep (∀ (y : World) (A : Option Addr) (c : Nat), Rd y y.heap.size A 4 .u64 d → Calls Try.prog 37 #[.slice A 4 c] y fun e y' => e = .returned (.agg (vals .u64 r)) ∧ Below y.heap.size y y') := ⟨fun y A c h => by
    have h1 := frRem_c A 4 c d y.heap.size y h wd_ (Nat.le_refl _) (by omega)
    rw [hfr] at h1
    exact h1⟩
  rw [hr]
  have La : Keep (a.length = 4) := ⟨hla⟩
  have Va : Keep (Words a) := ⟨hwa⟩
  have LZ : Keep (Z4.length = 4) := ⟨rfl⟩
  have LM : Keep (mL.length = 4) := ⟨rfl⟩
  obtain ⟨S, hS⟩ : ∃ S, w.heap.size = S := ⟨_, rfl⟩
  have qa0 : Has ((w.alloc (.cells (vals .u64 a) 25)).alloc (.cells (vals .u64 Z4) 25)) (S) 25 (vals .u64 a) := by exact ((Has.new' _ hS.symm _ _).alloc _)
  have qo0 : Has ((w.alloc (.cells (vals .u64 a) 25)).alloc (.cells (vals .u64 Z4) 25)) (S + 1) 25 (vals .u64 Z4) := by exact (Has.new' _ (by simp only [World.size_alloc, hS]) _ _)
  have hb0 : Below S w ((w.alloc (.cells (vals .u64 a) 25)).alloc (.cells (vals .u64 Z4) 25)) := by rw [← hS]; exact (((Below.refl _ _).alloc (Nat.le_refl _) _).alloc (by simp <;> omega) _)
  have hsz0 : ((w.alloc (.cells (vals .u64 a) 25)).alloc (.cells (vals .u64 Z4) 25)).heap.size = S + 2 := by simp only [World.size_alloc, hS]
  have HS0 : Keep (S ≤ w.heap.size) := ⟨by omega⟩
  have HSS : Keep (∀ x : World, Below S w x → S ≤ x.heap.size) := ⟨fun x hb => Nat.le_trans HS0.out hb.size⟩
  rw [hS]
  clear hx hr hd hsub hfr wd_ wx hxn
  clear hla hwa
  go_enter Try.func18, Try.ntmps18
  go_wp2
  change Code.wp _ _ _ _ (((w.alloc (.cells (vals .u64 a) 25)).alloc (.cells (vals .u64 Z4) 25)))
  obtain ⟨w0, hw0⟩ : ∃ x, ((w.alloc (.cells (vals .u64 a) 25)).alloc (.cells (vals .u64 Z4) 25)) = x := ⟨_, rfl⟩
  rw [hw0] at hb0 qa0 qo0 ⊢
  clear hw0
  have HS : Keep (∀ x x' : World, (fun x : World => Below S w x ∧ Has x (S) 25 (vals .u64 a)) x → Below x.heap.size x x' → (fun x : World => Below S w x ∧ Has x (S) 25 (vals .u64 a)) x') := ⟨fun x x' h hb => by
    obtain ⟨hB, ha_⟩ := h
    exact ⟨hB.trans (hb.mono (HSS.out _ hB)), ha_.keep hb⟩⟩
  have hdr : (fun x : World => Below S w x ∧ Has x (S) 25 (vals .u64 a)) w0.drew := HS.out _ _ ⟨hb0, qa0⟩ ⟨rfl, rfl, rfl, Nat.le_refl _, fun _ _ => rfl⟩
  have hbd : Below w0.heap.size w0 w0.drew := ⟨rfl, rfl, rfl, Nat.le_refl _, fun _ _ => rfl⟩
  refine wp_regionU (S := (fun x : World => Below S w x ∧ Has x (S) 25 (vals .u64 a))) (by kernel_rfl) ?_
  change wpAnyU _ _ _ _ _ 7 _ _ _
  have ra := qa0.keep hbd
  have ro := qo0.keep hbd
  have hbr := hb0.trans (hbd.mono (HSS.out _ hb0))
  clear hbd hb0 qa0 qo0
  refine wpAnyU_take (i := 0) (v := .agg (vals .u64 mL)) HS.out (by rfl) (by kernel_rfl) (by kernel_rfl) (by kernel_rfl) (fun _ _ d _ _ h => by cases d <;> exact h) hdr (Or.inl ⟨by rfl, fun w hw => (by unfold Oper.quietAt; go_simp; exact P0.out _)⟩) ?_
  simp only [List.getElem_toArray, List.getElem_cons_zero, List.getElem_cons_succ, Act.put, List.setIfInBounds_toArray, List.set_cons_zero, List.set_cons_succ]
  refine wpAnyU_take (i := 1) (v := _) HS.out (by rfl) (by kernel_rfl) (by kernel_rfl) (by kernel_rfl) (fun _ _ d _ _ h => by cases d <;> exact h) hdr (Steady.load_seg (by rfl) 25 (.tmp 1) (by rfl) (S) 0 4 (by rfl) 25 .u64 a a _ (fun w hw => hw.2) Try.underlying25 rfl (by kernel_rfl) (by rw [List.drop_zero, take_all La.out]) (by rw [La.out]; omega)) ?_
  simp only [List.getElem_toArray, List.getElem_cons_zero, List.getElem_cons_succ, Act.put, List.setIfInBounds_toArray, List.set_cons_zero, List.set_cons_succ]
  refine wpAnyU_take (i := 2) (v := .agg (vals .u64 x)) HS.out (by rfl) (by kernel_rfl) (by kernel_rfl) (by kernel_rfl) (fun _ _ d _ _ h => by cases d <;> exact h) hdr (Or.inl ⟨by rfl, fun w hw => (by unfold Oper.quietAt; go_simp; exact P1.out _)⟩) ?_
  simp only [List.getElem_toArray, List.getElem_cons_zero, List.getElem_cons_succ, Act.put, List.setIfInBounds_toArray, List.set_cons_zero, List.set_cons_succ]
  refine wpAnyU_two (i := 3) (k := 4) (by rfl) (by rfl) (by kernel_rfl) ?_ ?_
  · intro w1 hq
    have ok1 := HS.out _ _ hdr hq
    have ra' := ra.keep hq
    have ro' := ro.keep hq
    have hbr' := hbr.trans (hq.mono (HSS.out _ hbr))
    clear hbr hq ra ro
    have Nam : Keep (S < w1.heap.size) := ⟨ra'.lt⟩
    have Nom : Keep (S + 1 < w1.heap.size) := ⟨ro'.lt⟩
    have Mm : Keep (S ≤ w1.heap.size) := ⟨HSS.out _ hbr'⟩
    have hal : Below w1.heap.size w1 (w1.alloc (.cells (vals .u64 Z4) 25)) := (Below.refl _ _).alloc (Nat.le_refl _) _
    have ok2 := HS.out _ _ ok1 hal
    have ra := ra'.keep hal
    have ro := ro'.keep hal
    have rm : Has (w1.alloc (.cells (vals .u64 Z4) 25)) w1.heap.size 25 (vals .u64 Z4) := Has.new _ _ _
    have hbr := hbr'.trans (hal.mono (HSS.out _ hbr'))
    clear hal hbr' ok1 ra' ro'
    refine wpList_own (by rfl) ?_
    go_wp2
    try refine ⟨ok2, ?_⟩
    obtain ⟨gm, hgm⟩ : ∃ g, w1.heap.size = g := ⟨_, rfl⟩
    obtain ⟨w2, hw2⟩ : ∃ x, w1.alloc (.cells (vals .u64 Z4) 25) = x := ⟨_, rfl⟩
    change wpAnyU _ _ _ _ _ _ _ _ (w1.alloc (.cells (vals .u64 Z4) 25))
    rw [hw2] at ok2 hbr ra ro rm ⊢
    rw [hgm] at rm Mm Nam Nom ⊢
    clear hgm hw2
    refine wpAnyU_run (i := 4) (by rfl) (by kernel_rfl) (fun w3 hq => ?_)
    have ok3 := HS.out _ _ ok2 hq
    have ra' := ra.keep hq
    have ro' := ro.keep hq
    have rm' := rm.keep hq
    have hbr' := hbr.trans (hq.mono (HSS.out _ hbr))
    clear hbr hq ra ro rm
    have Nax : Keep (S < w3.heap.size) := ⟨ra'.lt⟩
    have Nox : Keep (S + 1 < w3.heap.size) := ⟨ro'.lt⟩
    have Nmx : Keep (gm < w3.heap.size) := ⟨rm'.lt⟩
    have Mx : Keep (S ≤ w3.heap.size) := ⟨HSS.out _ hbr'⟩
    have hal : Below w3.heap.size w3 (w3.alloc (.cells (vals .u64 Z4) 25)) := (Below.refl _ _).alloc (Nat.le_refl _) _
    have ok4 := HS.out _ _ ok3 hal
    have ra := ra'.keep hal
    have ro := ro'.keep hal
    have rm := rm'.keep hal
    have rx : Has (w3.alloc (.cells (vals .u64 Z4) 25)) w3.heap.size 25 (vals .u64 Z4) := Has.new _ _ _
    have hbr := hbr'.trans (hal.mono (HSS.out _ hbr'))
    clear hal hbr' ok3 ra' ro' rm'
    refine wpList_own (by rfl) ?_
    go_wp2
    try refine ⟨ok4, ?_⟩
    obtain ⟨gx, hgx⟩ : ∃ g, w3.heap.size = g := ⟨_, rfl⟩
    obtain ⟨w4, hw4⟩ : ∃ x, w3.alloc (.cells (vals .u64 Z4) 25) = x := ⟨_, rfl⟩
    change wpAnyU _ _ _ _ _ _ _ _ (w3.alloc (.cells (vals .u64 Z4) 25))
    rw [hw4] at ok4 hbr ra ro rm rx ⊢
    rw [hgx] at rx Mx Nax Nox Nmx ⊢
    clear hgx hw4
    refine wpAnyU_run (i := 5) (by rfl) (by kernel_rfl) (fun w5 hq => ?_)
    have ok5 := HS.out _ _ ok4 hq
    have ra' := ra.keep hq
    have ro' := ro.keep hq
    have rm' := rm.keep hq
    have rx' := rx.keep hq
    have hbr' := hbr.trans (hq.mono (HSS.out _ hbr))
    clear hbr hq ra ro rm rx
    refine wpList_own (by rfl) ?_
    go_wp2_with (refine store_abs2 (by rfl) 25 (.tmp 3) (.tmp 7) (by rfl) (by rfl) (gm) (vals .u64 mL) (by rfl) (by rfl) 25 _ rm' (by rw [vals_size, LM.out]; kernel_rfl) (by first | rfl | (rw [vals_size, vals_size, LM.out]; rfl)) vals_one ?_
                 intro w6 rm hkeep hbg
                 have ra := hkeep _ _ _ ra' (Nat.ne_of_lt Nam.out)
                 have ro := hkeep _ _ _ ro' (Nat.ne_of_lt Nom.out)
                 have rx := hkeep _ _ _ rx' (Nat.ne_of_gt Nmx.out)
                 have hbr := hbr'.trans (hbg.mono Mm.out)
                 clear hkeep hbg hbr' ra' ro' rm' rx')
    try refine ⟨⟨hbr, ra⟩, ?_⟩
    have ok6 : (fun x : World => Below S w x ∧ Has x (S) 25 (vals .u64 a)) w6 := ⟨hbr, ra⟩
    clear ok5
    refine wpAnyU_run (i := 6) (by rfl) (by kernel_rfl) (fun w7 hq => ?_)
    have ok7 := HS.out _ _ ok6 hq
    have ra' := ra.keep hq
    have ro' := ro.keep hq
    have rm' := rm.keep hq
    have rx' := rx.keep hq
    have hbr' := hbr.trans (hq.mono (HSS.out _ hbr))
    clear hbr hq ra ro rm rx
    refine wpList_own (by rfl) ?_
    go_wp2_with (refine store_abs2 (by rfl) 25 (.tmp 4) (.tmp 9) (by rfl) (by rfl) (gx) (vals .u64 x) (by rfl) (by rfl) 25 _ rx' (by rw [vals_size, Lx.out]; kernel_rfl) (by first | rfl | (rw [vals_size, vals_size, Lx.out]; rfl)) vals_one ?_
                 intro w8 rx hkeep hbg
                 have ra := hkeep _ _ _ ra' (Nat.ne_of_lt Nax.out)
                 have ro := hkeep _ _ _ ro' (Nat.ne_of_lt Nox.out)
                 have rm := hkeep _ _ _ rm' (Nat.ne_of_lt Nmx.out)
                 have hbr := hbr'.trans (hbg.mono Mx.out)
                 clear hkeep hbg hbr' ra' ro' rm' rx')
    try refine ⟨⟨hbr, ra⟩, ?_⟩
    have ok8 : (fun x : World => Below S w x ∧ Has x (S) 25 (vals .u64 a)) w8 := ⟨hbr, ra⟩
    clear ok7
    refine wpAnyU_end (by kernel_rfl) (fun w9 hq => ?_)
    have qa9 := ra.keep hq
    have qo9 := ro.keep hq
    have qm9 := rm.keep hq
    have qx9 := rx.keep hq
    have hb9 := hbr.trans (hq.mono (HSS.out _ hbr))
    clear hq hbr ok8 HS  ra ro rm rx
    go_wp2
    refine wp_one [0, 1] 2 (by kernel_rfl) (by rfl) (by kernel_rfl) (by kernel_rfl) (fun _ _ d _ _ h => by cases d <;> exact h) ?_
    simp only [List.filterMap_cons, List.filterMap_nil, List.getElem?_cons_zero, List.getElem?_cons_succ]
    refine ⟨_, Or.inl ⟨by rfl, fun w => (by go_simp; with_reducible rfl)⟩, ?_⟩
    simp only [Act.put, List.setIfInBounds_toArray, List.set_cons_zero, List.set_cons_succ]
    refine ⟨_, Or.inl ⟨by rfl, fun w => (by go_simp; with_reducible rfl)⟩, ?_⟩
    simp only [Act.put, List.setIfInBounds_toArray, List.set_cons_zero, List.set_cons_succ]
    refine ⟨_, rfl, ?_⟩
    refine wpList_own (by rfl) ?_
    have hbd : Below w9.heap.size w9 w9.drew := ⟨rfl, rfl, rfl, Nat.le_refl _, fun _ _ => rfl⟩
    have qa10 := qa9.keep hbd
    have qo10 := qo9.keep hbd
    have qm10 := qm9.keep hbd
    have qx10 := qx9.keep hbd
    have hb10 := hb9.trans (hbd.mono (HSS.out _ hb9))
    clear hbd hb9 qa9 qo9 qm9 qx9
    generalize w9.drew = w10 at *
    go_wp2_with (first
      | (have hq0 := hb10
         clear hq0
         go_at_call 34
         refine (P2.out _ _ _ qm10 qx10).mono ?_
         rintro e w11 ⟨A3, c3, rfl, ho, hq⟩
         have qa11 := qa10.keep hq
         have qo11 := qo10.keep hq
         have qm11 := qm10.keep hq
         have qx11 := qx10.keep hq
         have hb11 := hb10.trans (hq.mono (HSS.out _ hb10))
         have xd11 := ho.rd
         clear hq hb10 qa10 qo10 qm10 qx10))
    simp only [quietThen, List.drop_succ_cons, List.drop_zero]
    intro I hI' fw hf hback
    repeat (go_big_quiet_step (fail))
    refine wpQuiet_nil ?_
    intro w12 hq
    have qa12 := qa11.keep hq
    have qo12 := qo11.keep hq
    have qm12 := qm11.keep hq
    have qx12 := qx11.keep hq
    have xd12 := rd_here xd11 hq
    have hb12 := hb11.trans (hq.mono (HSS.out _ hb11))
    clear hf hback hq ho hb11 qa11 qo11 qm11 qx11 xd11
    go_wp2_with (first
      | (refine store_abs2 (by rfl) 25 (.tmp 2) (.tmp 17) (by rfl) (by rfl) (S + 1) (vals .u64 r) (by rfl) (by rfl) 25 _ qo13 (by rw [vals_size, Lr.out]; kernel_rfl) (by first | rfl | (rw [vals_size, vals_size, Lr.out]; rfl) | rw [vals_size, vals_size, Lr.out, LZ.out]) vals_one ?_
         intro w14 qo14 hkeep hbg
         have qa14 := hkeep _ _ _ qa13 (by omega)
         have qm14 := hkeep _ _ _ qm13 (Nat.ne_of_gt Nom.out)
         have qx14 := hkeep _ _ _ qx13 (Nat.ne_of_gt Nox.out)
         have hb14 := hb13.trans (hbg.mono (by omega))
         clear hkeep hbg hb13 qa13 qo13 qm13 qx13)
      | (have hq0 := hb12
         clear hq0
         go_at_call 37
         refine (P3.out _ _ _ xd12).mono ?_
         rintro e w13 ⟨rfl, hq⟩
         have qa13 := qa12.keep hq
         have qo13 := qo12.keep hq
         have qm13 := qm12.keep hq
         have qx13 := qx12.keep hq
         have xd13 := rd_here xd12 hq
         have hb13 := hb12.trans (hq.mono (HSS.out _ hb12))
         clear hq hb12 qa12 qo12 qm12 qx12 xd12))
    refine bodyPost_ret (v := .agg (vals .u64 r)) (results_cell_row rfl _ _ (S + 1) _ _ _ _ rfl qo14.eq Try.underlying25 rfl (by rw [vals_size, Lr.out]; kernel_rfl)) rfl ⟨rfl, hb14⟩
  · intro w1 hq
    have ok1 := HS.out _ _ hdr hq
    have ra' := ra.keep hq
    have ro' := ro.keep hq
    have hbr' := hbr.trans (hq.mono (HSS.out _ hbr))
    clear hbr hq ra ro
    have Nax : Keep (S < w1.heap.size) := ⟨ra'.lt⟩
    have Nox : Keep (S + 1 < w1.heap.size) := ⟨ro'.lt⟩
    have Mx : Keep (S ≤ w1.heap.size) := ⟨HSS.out _ hbr'⟩
    have hal : Below w1.heap.size w1 (w1.alloc (.cells (vals .u64 Z4) 25)) := (Below.refl _ _).alloc (Nat.le_refl _) _
    have ok2 := HS.out _ _ ok1 hal
    have ra := ra'.keep hal
    have ro := ro'.keep hal
    have rx : Has (w1.alloc (.cells (vals .u64 Z4) 25)) w1.heap.size 25 (vals .u64 Z4) := Has.new _ _ _
    have hbr := hbr'.trans (hal.mono (HSS.out _ hbr'))
    clear hal hbr' ok1 ra' ro'
    refine wpList_own (by rfl) ?_
    go_wp2
    try refine ⟨ok2, ?_⟩
    obtain ⟨gx, hgx⟩ : ∃ g, w1.heap.size = g := ⟨_, rfl⟩
    obtain ⟨w2, hw2⟩ : ∃ x, w1.alloc (.cells (vals .u64 Z4) 25) = x := ⟨_, rfl⟩
    change wpAnyU _ _ _ _ _ _ _ _ (w1.alloc (.cells (vals .u64 Z4) 25))
    rw [hw2] at ok2 hbr ra ro rx ⊢
    rw [hgx] at rx Mx Nax Nox ⊢
    clear hgx hw2
    refine wpAnyU_run (i := 3) (by rfl) (by kernel_rfl) (fun w3 hq => ?_)
    have ok3 := HS.out _ _ ok2 hq
    have ra' := ra.keep hq
    have ro' := ro.keep hq
    have rx' := rx.keep hq
    have hbr' := hbr.trans (hq.mono (HSS.out _ hbr))
    clear hbr hq ra ro rx
    have Nam : Keep (S < w3.heap.size) := ⟨ra'.lt⟩
    have Nom : Keep (S + 1 < w3.heap.size) := ⟨ro'.lt⟩
    have Nxm : Keep (gx < w3.heap.size) := ⟨rx'.lt⟩
    have Mm : Keep (S ≤ w3.heap.size) := ⟨HSS.out _ hbr'⟩
    have hal : Below w3.heap.size w3 (w3.alloc (.cells (vals .u64 Z4) 25)) := (Below.refl _ _).alloc (Nat.le_refl _) _
    have ok4 := HS.out _ _ ok3 hal
    have ra := ra'.keep hal
    have ro := ro'.keep hal
    have rx := rx'.keep hal
    have rm : Has (w3.alloc (.cells (vals .u64 Z4) 25)) w3.heap.size 25 (vals .u64 Z4) := Has.new _ _ _
    have hbr := hbr'.trans (hal.mono (HSS.out _ hbr'))
    clear hal hbr' ok3 ra' ro' rx'
    refine wpList_own (by rfl) ?_
    go_wp2
    try refine ⟨ok4, ?_⟩
    obtain ⟨gm, hgm⟩ : ∃ g, w3.heap.size = g := ⟨_, rfl⟩
    obtain ⟨w4, hw4⟩ : ∃ x, w3.alloc (.cells (vals .u64 Z4) 25) = x := ⟨_, rfl⟩
    change wpAnyU _ _ _ _ _ _ _ _ (w3.alloc (.cells (vals .u64 Z4) 25))
    rw [hw4] at ok4 hbr ra ro rx rm ⊢
    rw [hgm] at rm Mm Nam Nom Nxm ⊢
    clear hgm hw4
    refine wpAnyU_run (i := 5) (by rfl) (by kernel_rfl) (fun w5 hq => ?_)
    have ok5 := HS.out _ _ ok4 hq
    have ra' := ra.keep hq
    have ro' := ro.keep hq
    have rx' := rx.keep hq
    have rm' := rm.keep hq
    have hbr' := hbr.trans (hq.mono (HSS.out _ hbr))
    clear hbr hq ra ro rx rm
    refine wpList_own (by rfl) ?_
    go_wp2_with (refine store_abs2 (by rfl) 25 (.tmp 3) (.tmp 7) (by rfl) (by rfl) (gm) (vals .u64 mL) (by rfl) (by rfl) 25 _ rm' (by rw [vals_size, LM.out]; kernel_rfl) (by first | rfl | (rw [vals_size, vals_size, LM.out]; rfl)) vals_one ?_
                 intro w6 rm hkeep hbg
                 have ra := hkeep _ _ _ ra' (Nat.ne_of_lt Nam.out)
                 have ro := hkeep _ _ _ ro' (Nat.ne_of_lt Nom.out)
                 have rx := hkeep _ _ _ rx' (Nat.ne_of_lt Nxm.out)
                 have hbr := hbr'.trans (hbg.mono Mm.out)
                 clear hkeep hbg hbr' ra' ro' rx' rm')
    try refine ⟨⟨hbr, ra⟩, ?_⟩
    have ok6 : (fun x : World => Below S w x ∧ Has x (S) 25 (vals .u64 a)) w6 := ⟨hbr, ra⟩
    clear ok5
    refine wpAnyU_run (i := 6) (by rfl) (by kernel_rfl) (fun w7 hq => ?_)
    have ok7 := HS.out _ _ ok6 hq
    have ra' := ra.keep hq
    have ro' := ro.keep hq
    have rx' := rx.keep hq
    have rm' := rm.keep hq
    have hbr' := hbr.trans (hq.mono (HSS.out _ hbr))
    clear hbr hq ra ro rx rm
    refine wpList_own (by rfl) ?_
    go_wp2_with (refine store_abs2 (by rfl) 25 (.tmp 4) (.tmp 9) (by rfl) (by rfl) (gx) (vals .u64 x) (by rfl) (by rfl) 25 _ rx' (by rw [vals_size, Lx.out]; kernel_rfl) (by first | rfl | (rw [vals_size, vals_size, Lx.out]; rfl)) vals_one ?_
                 intro w8 rx hkeep hbg
                 have ra := hkeep _ _ _ ra' (Nat.ne_of_lt Nax.out)
                 have ro := hkeep _ _ _ ro' (Nat.ne_of_lt Nox.out)
                 have rm := hkeep _ _ _ rm' (Nat.ne_of_gt Nxm.out)
                 have hbr := hbr'.trans (hbg.mono Mx.out)
                 clear hkeep hbg hbr' ra' ro' rx' rm')
    try refine ⟨⟨hbr, ra⟩, ?_⟩
    have ok8 : (fun x : World => Below S w x ∧ Has x (S) 25 (vals .u64 a)) w8 := ⟨hbr, ra⟩
    clear ok7
    refine wpAnyU_end (by kernel_rfl) (fun w9 hq => ?_)
    have qa9 := ra.keep hq
    have qo9 := ro.keep hq
    have qx9 := rx.keep hq
    have qm9 := rm.keep hq
    have hb9 := hbr.trans (hq.mono (HSS.out _ hbr))
    clear hq hbr ok8 HS  ra ro rx rm
    go_wp2
    refine wp_one [0, 1] 2 (by kernel_rfl) (by rfl) (by kernel_rfl) (by kernel_rfl) (fun _ _ d _ _ h => by cases d <;> exact h) ?_
    simp only [List.filterMap_cons, List.filterMap_nil, List.getElem?_cons_zero, List.getElem?_cons_succ]
    refine ⟨_, Or.inl ⟨by rfl, fun w => (by go_simp; with_reducible rfl)⟩, ?_⟩
    simp only [Act.put, List.setIfInBounds_toArray, List.set_cons_zero, List.set_cons_succ]
    refine ⟨_, Or.inl ⟨by rfl, fun w => (by go_simp; with_reducible rfl)⟩, ?_⟩
    simp only [Act.put, List.setIfInBounds_toArray, List.set_cons_zero, List.set_cons_succ]
    refine ⟨_, rfl, ?_⟩
    refine wpList_own (by rfl) ?_
    have hbd : Below w9.heap.size w9 w9.drew := ⟨rfl, rfl, rfl, Nat.le_refl _, fun _ _ => rfl⟩
    have qa10 := qa9.keep hbd
    have qo10 := qo9.keep hbd
    have qx10 := qx9.keep hbd
    have qm10 := qm9.keep hbd
    have hb10 := hb9.trans (hbd.mono (HSS.out _ hb9))
    clear hbd hb9 qa9 qo9 qx9 qm9
    generalize w9.drew = w10 at *
    go_wp2_with (first
      | (have hq0 := hb10
         clear hq0
         go_at_call 34
         refine (P2.out _ _ _ qm10 qx10).mono ?_
         rintro e w11 ⟨A3, c3, rfl, ho, hq⟩
         have qa11 := qa10.keep hq
         have qo11 := qo10.keep hq
         have qx11 := qx10.keep hq
         have qm11 := qm10.keep hq
         have hb11 := hb10.trans (hq.mono (HSS.out _ hb10))
         have xd11 := ho.rd
         clear hq hb10 qa10 qo10 qx10 qm10))
    simp only [quietThen, List.drop_succ_cons, List.drop_zero]
    intro I hI' fw hf hback
    repeat (go_big_quiet_step (fail))
    refine wpQuiet_nil ?_
    intro w12 hq
    have qa12 := qa11.keep hq
    have qo12 := qo11.keep hq
    have qx12 := qx11.keep hq
    have qm12 := qm11.keep hq
    have xd12 := rd_here xd11 hq
    have hb12 := hb11.trans (hq.mono (HSS.out _ hb11))
    clear hf hback hq ho hb11 qa11 qo11 qx11 qm11 xd11
    go_wp2_with (first
      | (refine store_abs2 (by rfl) 25 (.tmp 2) (.tmp 17) (by rfl) (by rfl) (S + 1) (vals .u64 r) (by rfl) (by rfl) 25 _ qo13 (by rw [vals_size, Lr.out]; kernel_rfl) (by first | rfl | (rw [vals_size, vals_size, Lr.out]; rfl) | rw [vals_size, vals_size, Lr.out, LZ.out]) vals_one ?_
         intro w14 qo14 hkeep hbg
         have qa14 := hkeep _ _ _ qa13 (by omega)
         have qx14 := hkeep _ _ _ qx13 (Nat.ne_of_gt Nox.out)
         have qm14 := hkeep _ _ _ qm13 (Nat.ne_of_gt Nom.out)
         have hb14 := hb13.trans (hbg.mono (by omega))
         clear hkeep hbg hb13 qa13 qo13 qx13 qm13)
      | (have hq0 := hb12
         clear hq0
         go_at_call 37
         refine (P3.out _ _ _ xd12).mono ?_
         rintro e w13 ⟨rfl, hq⟩
         have qa13 := qa12.keep hq
         have qo13 := qo12.keep hq
         have qx13 := qx12.keep hq
         have qm13 := qm12.keep hq
         have xd13 := rd_here xd12 hq
         have hb13 := hb12.trans (hq.mono (HSS.out _ hb12))
         clear hq hb12 qa12 qo12 qx12 qm12 xd12))
    refine bodyPost_ret (v := .agg (vals .u64 r)) (results_cell_row rfl _ _ (S + 1) _ _ _ _ rfl qo14.eq Try.underlying25 rfl (by rw [vals_size, Lr.out]; kernel_rfl)) rfl ⟨rfl, hb14⟩

set_option maxRecDepth 100000 in
set_option maxHeartbeats 2000000 in
theorem frMul_c (a : List Int) (hla : a.length = 4) (hwa : Words a) (b : List Int) (hlb : b.length = 4) (hwb : Words b) (w : World) : Calls Try.prog 20 #[.agg (vals .u64 a), .agg (vals .u64 b)] w fun e w' => e = .returned (.agg (vals .u64 (fr (num a * num b)))) ∧ Below w.heap.size w w' := by
  have La : Keep (a.length = 4) := ⟨hla⟩
  have Va : Keep (Words a) := ⟨hwa⟩
  have Lb : Keep (b.length = 4) := ⟨hlb⟩
  have Vb : Keep (Words b) := ⟨hwb⟩
  have LZ : Keep (Z4.length = 4) := ⟨rfl⟩
  have LM : Keep (mL.length = 4) := ⟨rfl⟩
  obtain ⟨r, hr⟩ : ∃ o, fr (num a * num b) = o := ⟨_, rfl⟩
  have Lr : Keep (r.length = 4) := ⟨by rw [← hr]; exact fr_len _⟩
  obtain ⟨d, hd⟩ : ∃ d, wd 8 (num a * num b) = d := ⟨_, rfl⟩
  have hwd : Words d := by rw [← hd]; exact wd_words _ _
  have na := num4 hwa hla
  have nb := num4 hwb hlb
  have hnum : num d = num a * num b := by
    rw [← hd]
    have h := prod_less (i := 4) (j := 4) na.1 na.2 nb.1 nb.2
    exact num_wd_of h.1 h.2
  have P2 : Keep (∀ (y : World) (A : Option Addr) (c : Nat), Rd y y.heap.size A 8 .u64 d → Calls Try.prog 37 #[.slice A 8 c] y fun e y' => e = .returned (.agg (vals .u64 r)) ∧ Below y.heap.size y y') := ⟨fun y A c h => by
    have h1 := frRem_c A 8 c d y.heap.size y h hwd (Nat.le_refl _) (by omega)
    rw [hnum, hr] at h1
    exact h1⟩
  have P1 : Keep (∀ (y : World) (g g' : Nat), Has y g 25 (vals .u64 a) → Has y g' 25 (vals .u64 b) → Calls Try.prog 33 #[.slice (some ⟨g, 0, none⟩) 4 4, .slice (some ⟨g', 0, none⟩) 4 4] y fun e y' => ∃ A'' c'', e = .returned (.slice A'' 8 c'') ∧ Frs y' y.heap.size A'' 8 .u64 d ∧ Below y.heap.size y y') := ⟨fun y g g' h h' => by
    have h1 := mul_c (some ⟨g, 0, none⟩) 4 4 a (some ⟨g', 0, none⟩) 4 4 b y.heap.size y (Rd.of_has h h.lt (by rw [List.drop_zero, take_all La.out]) (by rw [La.out]; omega)) Va.out (Rd.of_has h' h'.lt (by rw [List.drop_zero, take_all Lb.out]) (by rw [Lb.out]; omega)) Vb.out (Nat.le_refl _) (by omega) (by omega)
    rw [hd] at h1
    exact h1⟩
  rw [hr]
  clear hr hd na nb hnum hwd
  obtain ⟨S, hS⟩ : ∃ S, w.heap.size = S := ⟨_, rfl⟩
  have qa0 : Has (((w.alloc (.cells (vals .u64 a) 25)).alloc (.cells (vals .u64 b) 25)).alloc (.cells (vals .u64 Z4) 25)) (S) 25 (vals .u64 a) := by exact (((Has.new' _ hS.symm _ _).alloc _).alloc _)
  have qb0 : Has (((w.alloc (.cells (vals .u64 a) 25)).alloc (.cells (vals .u64 b) 25)).alloc (.cells (vals .u64 Z4) 25)) (S + 1) 25 (vals .u64 b) := by exact ((Has.new' _ (by simp only [World.size_alloc, hS]) _ _).alloc _)
  have qo0 : Has (((w.alloc (.cells (vals .u64 a) 25)).alloc (.cells (vals .u64 b) 25)).alloc (.cells (vals .u64 Z4) 25)) (S + 2) 25 (vals .u64 Z4) := by exact (Has.new' _ (by simp only [World.size_alloc, hS]) _ _)
  have hb0 : Below S w (((w.alloc (.cells (vals .u64 a) 25)).alloc (.cells (vals .u64 b) 25)).alloc (.cells (vals .u64 Z4) 25)) := by rw [← hS]; exact ((((Below.refl _ _).alloc (Nat.le_refl _) _).alloc (by simp <;> omega) _).alloc (by simp <;> omega) _)
  have hsz0 : (((w.alloc (.cells (vals .u64 a) 25)).alloc (.cells (vals .u64 b) 25)).alloc (.cells (vals .u64 Z4) 25)).heap.size = S + 3 := by simp only [World.size_alloc, hS]
  have HS0 : Keep (S ≤ w.heap.size) := ⟨by omega⟩
  have HSS : Keep (∀ x : World, Below S w x → S ≤ x.heap.size) := ⟨fun x hb => Nat.le_trans HS0.out hb.size⟩
  rw [hS]
  clear hla hwa hlb hwb
  go_enter Try.func20, Try.ntmps20
  go_wp2
  change Code.wp _ _ _ _ ((((w.alloc (.cells (vals .u64 a) 25)).alloc (.cells (vals .u64 b) 25)).alloc (.cells (vals .u64 Z4) 25)))
  obtain ⟨w0, hw0⟩ : ∃ x, (((w.alloc (.cells (vals .u64 a) 25)).alloc (.cells (vals .u64 b) 25)).alloc (.cells (vals .u64 Z4) 25)) = x := ⟨_, rfl⟩
  rw [hw0] at hb0 qa0 qb0 qo0 ⊢
  clear hw0
  refine wp_front [0, 1] [2, 3, 4] (by kernel_rfl) (by rfl) (by kernel_rfl) (by kernel_rfl) (fun _ _ d _ _ h => by cases d <;> exact h) ?_
  simp only [List.filterMap_cons, List.filterMap_nil, List.getElem?_cons_zero, List.getElem?_cons_succ]
  refine ⟨_, Or.inl ⟨by rfl, fun w => (by go_simp; with_reducible rfl)⟩, ?_⟩
  simp only [Act.put, List.setIfInBounds_toArray, List.set_cons_zero, List.set_cons_succ]
  refine ⟨_, Or.inl ⟨by rfl, fun w => (by go_simp; with_reducible rfl)⟩, ?_⟩
  simp only [Act.put, List.setIfInBounds_toArray, List.set_cons_zero, List.set_cons_succ]
  change wpList _ _ _ _ _ _
  refine wpList_own (by rfl) ?_
  have hbd : Below w0.heap.size w0 w0.drew := ⟨rfl, rfl, rfl, Nat.le_refl _, fun _ _ => rfl⟩
  have qa1 := qa0.keep hbd
  have qb1 := qb0.keep hbd
  have qo1 := qo0.keep hbd
  have hb1 := hb0.trans (hbd.mono (HSS.out _ hb0))
  clear hbd hb0 qa0 qb0 qo0
  generalize w0.drew = w1 at *
  go_wp2_with (first
    | (have hq0 := hb2
       clear hq0
       go_at_call 37
       refine (P2.out _ _ _ xd2).mono ?_
       rintro e w3 ⟨rfl, hq⟩
       have qa3 := qa2.keep hq
       have qb3 := qb2.keep hq
       have qo3 := qo2.keep hq
       have xd3 := rd_here xd2 hq
       have hb3 := hb2.trans (hq.mono (HSS.out _ hb2))
       clear hq hb2 qa2 qb2 qo2 xd2
       dsimp only
       refine ‹∀ (a : Act) (w : World), wpList _ _ _ _ a w → _› _ _ ?_
       refine store_abs2 (by rfl) 25 (.tmp 4) (.tmp 8) (by rfl) (by rfl) (S + 2) (vals .u64 r) (by rfl) (by rfl) 25 _ qo3 (by rw [vals_size, Lr.out]; kernel_rfl) (by first | rfl | (rw [vals_size, vals_size, Lr.out]; rfl) | rw [vals_size, vals_size, Lr.out, LZ.out]) vals_one ?_
       intro w4 qo4 hkeep hbg
       have qa4 := hkeep _ _ _ qa3 (by omega)
       have qb4 := hkeep _ _ _ qb3 (by omega)
       have hb4 := hb3.trans (hbg.mono (by omega))
       clear hkeep hbg hb3 qa3 qb3 qo3)
    | (have hq0 := hb1
       clear hq0
       go_at_call 33
       refine (P1.out _ _ _ qa1 qb1).mono ?_
       rintro e w2 ⟨A3, c3, rfl, ho, hq⟩
       have qa2 := qa1.keep hq
       have qb2 := qb1.keep hq
       have qo2 := qo1.keep hq
       have hb2 := hb1.trans (hq.mono (HSS.out _ hb1))
       have xd2 := ho.rd
       clear ho
       clear hq hb1 qa1 qb1 qo1))
  refine bodyPost_ret (v := .agg (vals .u64 r)) (results_cell_row rfl _ _ (S + 2) _ _ _ _ rfl qo4.eq Try.underlying25 rfl (by rw [vals_size, Lr.out]; kernel_rfl)) rfl ⟨rfl, hb4⟩

set_option maxRecDepth 100000 in
set_option maxHeartbeats 2000000 in
theorem frFromOctets_c (A : Option Addr) (n c : Nat) (l : List Int) (B : Nat) (w : World) (hr : Rd w B A n .u8 l) (hby : Bytes l) (hB : B ≤ w.heap.size) (hn : n ≤ 10000) : Calls Try.prog 26 #[.slice A n c] w fun e w' => e = .returned (.agg (vals .u64 (fr (bnum l)))) ∧ Below w.heap.size w w' := by
  have LZ : Keep (Z4.length = 4) := ⟨rfl⟩
  obtain ⟨r, hr_⟩ : ∃ o, fr (bnum l) = o := ⟨_, rfl⟩
  have Lr : Keep (r.length = 4) := ⟨by rw [← hr_]; exact fr_len _⟩
  have P1 : Keep (∀ y : World, Rd y y.heap.size A n .u8 l → Calls Try.prog 43 #[.slice A n c] y fun e y' => ∃ A'' c'', e = .returned (.slice A'' ((n + 7) / 8) c'') ∧ Frs y' y.heap.size A'' ((n + 7) / 8) .u64 (wordsL l) ∧ Below y.heap.size y y') := ⟨fun y h => words_c A n c l y.heap.size y h hby (Nat.le_refl _) (by omega)⟩
  obtain ⟨m, hm⟩ : ∃ m, (n + 7) / 8 = m := ⟨_, rfl⟩
  have hmn : m ≤ 10000 := by omega
  rw [hm] at P1
  have P2 : Keep (∀ (y : World) (A : Option Addr) (c : Nat), Rd y y.heap.size A m .u64 (wordsL l) → Calls Try.prog 37 #[.slice A m c] y fun e y' => e = .returned (.agg (vals .u64 r)) ∧ Below y.heap.size y y') := ⟨fun y A c h => by
    have h1 := frRem_c A m c (wordsL l) y.heap.size y h (wd_words _ _) (Nat.le_refl _) hmn
    rw [num_wordsL_ hby, hr_] at h1
    exact h1⟩
  obtain ⟨v, hv⟩ : ∃ v, wordsL l = v := ⟨_, rfl⟩
  rw [hv] at P1 P2
  rw [hr_]
  obtain ⟨S, hS⟩ : ∃ S, w.heap.size = S := ⟨_, rfl⟩
  have qo0 : Has (w.alloc (.cells (vals .u64 Z4) 25)) (S) 25 (vals .u64 Z4) := by exact (Has.new' _ hS.symm _ _)
  have hb0 : Below S w (w.alloc (.cells (vals .u64 Z4) 25)) := by rw [← hS]; exact ((Below.refl _ _).alloc (Nat.le_refl _) _)
  have hsz0 : (w.alloc (.cells (vals .u64 Z4) 25)).heap.size = S + 1 := by simp only [World.size_alloc, hS]
  have HS0 : Keep (S ≤ w.heap.size) := ⟨by omega⟩
  have HSS : Keep (∀ x : World, Below S w x → S ≤ x.heap.size) := ⟨fun x hb => Nat.le_trans HS0.out hb.size⟩
  rw [hS]
  have HRD : Keep (∀ x : World, Below S w x → Rd x x.heap.size A n .u8 l) := ⟨fun x hb => (hr.keep hb (by omega)).more (Nat.le_trans hB (Nat.le_trans (by omega) (HSS.out _ hb)))⟩
  clear hr hby hB hn hr_ hm hmn hv
  go_enter Try.func26, Try.ntmps26
  go_wp2_with (first
    | (refine store_abs2 (by rfl) 25 (.tmp 2) (.tmp 5) (by rfl) (by rfl) (S) (vals .u64 r) (by rfl) (by rfl) 25 _ qo2 (by rw [vals_size, Lr.out]; kernel_rfl) (by first | rfl | (rw [vals_size, vals_size, Lr.out]; rfl) | rw [vals_size, vals_size, Lr.out, LZ.out]) vals_one ?_
       intro w3 qo3 hkeep hbg
       have hb3 := hb2.trans (hbg.mono (by omega))
       clear hkeep hbg hb2 qo2)
    | (have hq0 := hb1
       clear hq0
       go_at_call 37
       refine (P2.out _ _ _ xv1).mono ?_
       rintro e w2 ⟨rfl, hq⟩
       have qo2 := qo1.keep hq
       have xv2 := rd_here xv1 hq
       have hb2 := hb1.trans (hq.mono (HSS.out _ hb1))
       clear hq hb1 qo1 xv1)
    | (have hq0 := hb0
       clear hq0
       go_at_call 43
       refine (P1.out _ (HRD.out _ hb0)).mono ?_
       rintro e w1 ⟨A1, c1, rfl, ho, hq⟩
       have qo1 := qo0.keep hq
       have hb1 := hb0.trans (hq.mono (HSS.out _ hb0))
       have xv1 := ho.rd
       clear ho
       clear hq hb0 qo0))
  refine bodyPost_ret (v := .agg (vals .u64 r)) (results_cell_row rfl _ _ (S) _ _ _ _ rfl qo3.eq Try.underlying25 rfl (by rw [vals_size, Lr.out]; kernel_rfl)) rfl ⟨rfl, hb3⟩

end Go.Proofs.Ythaoebamnlmfpaa.Fr
