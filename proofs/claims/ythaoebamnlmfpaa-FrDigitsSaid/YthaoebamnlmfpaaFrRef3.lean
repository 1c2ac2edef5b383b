/-
  Own text. The contracts of layer 6's reference: Add, Wide.
-/
import Derived.Test.YthaoebamnlmfpaaFrRef2
import Derived.Test.YthaoebamnlmfpaaLimbRef4
import Derived.Test.YthaoebamnlmfpaaRegE
namespace Go.Proofs.Ythaoebamnlmfpaa.Fr
set_option linter.unusedVariables false
set_option linter.unusedSimpArgs false
open Go Go.RowKit Go.Proofs.Ythaoebamnlmfpaa.Num Go.Proofs.Ythaoebamnlmfpaa.Reg Go.Proofs.Ythaoebamnlmfpaa.Base Go.Proofs.Ythaoebamnlmfpaa.Limb Go.Proofs.Ythaoebamnlmfpaa.Bits

set_option maxRecDepth 100000 in
set_option maxHeartbeats 2000000 in
theorem refAdd_c4 (a : List Int) (hla : a.length = 4) (hwa : Words a) (b : List Int) (hlb : b.length = 4) (hwb : Words b) (w : World) : Calls Try.prog 17 #[.agg (vals .u64 a), .agg (vals .u64 b)] w fun e w' => e = .returned (.agg (vals .u64 (fr (num a + num b)))) ∧ Below w.heap.size w w' := by
  have P1 : Keep (∀ x : World, _) := ⟨fun x => refReduce_c a hla hwa x⟩
  have P2 : Keep (∀ x : World, _) := ⟨fun x => refReduce_c b hlb hwb x⟩
  have P3 : Keep (∀ x : World, _) := ⟨fun x => refPlus_c (fr (num a)) (fr_len _) (fr_words _) (fr (num b)) (fr_len _) (fr_words _) (by rw [num_fr]; exact (fr_mod _).2) (by rw [num_fr]; exact (fr_mod _).2) x⟩
  rw [fr_addl, fr_addr] at P3
  obtain ⟨x, hx⟩ : ∃ o, fr (num a) = o := ⟨_, rfl⟩
  have Lx : Keep (x.length = 4) := ⟨by rw [← hx]; exact fr_len _⟩
  obtain ⟨y, hy⟩ : ∃ o, fr (num b) = o := ⟨_, rfl⟩
  have Ly : Keep (y.length = 4) := ⟨by rw [← hy]; exact fr_len _⟩
  obtain ⟨r, hr⟩ : ∃ o, fr (num a + num b) = o := ⟨_, rfl⟩
  have Lr : Keep (r.length = 4) := ⟨by rw [← hr]; exact fr_len _⟩
  rw [hx] at P1 P3
  rw [hy] at P2 P3
  rw [hr] at P3 ⊢
  have La : Keep (a.length = 4) := ⟨hla⟩
  have Va : Keep (Words a) := ⟨hwa⟩
  have Lb : Keep (b.length = 4) := ⟨hlb⟩
  have Vb : Keep (Words b) := ⟨hwb⟩
  have LZ : Keep (Z4.length = 4) := ⟨rfl⟩
  have LM : Keep (mL.length = 4) := ⟨rfl⟩
  obtain ⟨S, hS⟩ : ∃ S, w.heap.size = S := ⟨_, rfl⟩
  have qa0 : Has (((w.alloc (.cells (vals .u64 a) 25)).alloc (.cells (vals .u64 b) 25)).alloc (.cells (vals .u64 Z4) 25)) (S) 25 (vals .u64 a) := by exact (((Has.new' _ hS.symm _ _).alloc _).alloc _)
  have qb0 : Has (((w.alloc (.cells (vals .u64 a) 25)).alloc (.cells (vals .u64 b) 25)).alloc (.cells (vals .u64 Z4) 25)) (S + 1) 25 (vals .u64 b) := by exact ((Has.new' _ (by simp only [World.size_alloc, hS]) _ _).alloc _)
  have qo0 : Has (((w.alloc (.cells (vals .u64 a) 25)).alloc (.cells (vals .u64 b) 25)).alloc (.cells (vals .u64 Z4) 25)) (S + 2) 25 (vals .u64 Z4) := by exact (Has.new' _ (by simp only [World.size_alloc, hS]) _ _)
  have hb0 : Below S w (((w.alloc (.cells (vals .u64 a) 25)).alloc (.cells (vals .u64 b) 25)).alloc (.cells (vals .u64 Z4) 25)) := by rw [← hS]; exact ((((Below.refl _ _).alloc (Nat.le_refl _) _).alloc (by simp <;> omega) _).alloc (by simp <;> omega) _)
  have hsz0 : (((w.alloc (.cells (vals .u64 a) 25)).alloc (.cells (vals .u64 b) 25)).alloc (.cells (vals .u64 Z4) 25)).heap.size = S + 3 := by simp only [World.size_alloc, hS]
  have HS0 : Keep (S ≤ w.heap.size) := ⟨by omega⟩
  have HSS : Keep (∀ x : World, Below S w x → S ≤ x.heap.size) := ⟨fun x hb => Nat.le_trans HS0.out hb.size⟩
  rw [hS]
  clear hx hy hr
  clear hla hwa hlb hwb
  go_enter Try.func17, Try.ntmps17
  go_wp2
  change Code.wp _ _ _ _ ((((w.alloc (.cells (vals .u64 a) 25)).alloc (.cells (vals .u64 b) 25)).alloc (.cells (vals .u64 Z4) 25)))
  obtain ⟨w0, hw0⟩ : ∃ x, (((w.alloc (.cells (vals .u64 a) 25)).alloc (.cells (vals .u64 b) 25)).alloc (.cells (vals .u64 Z4) 25)) = x := ⟨_, rfl⟩
  rw [hw0] at hb0 qa0 qb0 qo0 ⊢
  clear hw0
  have HS : Keep (∀ x x' : World, (fun x : World => Below S w x ∧ Has x (S) 25 (vals .u64 a) ∧ Has x (S + 1) 25 (vals .u64 b)) x → Below x.heap.size x x' → (fun x : World => Below S w x ∧ Has x (S) 25 (vals .u64 a) ∧ Has x (S + 1) 25 (vals .u64 b)) x') := ⟨fun x x' h hb => by
    obtain ⟨hB, ha_, hb_⟩ := h
    exact ⟨hB.trans (hb.mono (HSS.out _ hB)), ha_.keep hb, hb_.keep hb⟩⟩
  have hdr : (fun x : World => Below S w x ∧ Has x (S) 25 (vals .u64 a) ∧ Has x (S + 1) 25 (vals .u64 b)) w0.drew := HS.out _ _ ⟨hb0, qa0, qb0⟩ ⟨rfl, rfl, rfl, Nat.le_refl _, fun _ _ => rfl⟩
  have hbd : Below w0.heap.size w0 w0.drew := ⟨rfl, rfl, rfl, Nat.le_refl _, fun _ _ => rfl⟩
  refine wp_regionU (S := (fun x : World => Below S w x ∧ Has x (S) 25 (vals .u64 a) ∧ Has x (S + 1) 25 (vals .u64 b))) (by kernel_rfl) ?_
  change wpAnyU _ _ _ _ _ 6 _ _ _
  have ra := qa0.keep hbd
  have rb := qb0.keep hbd
  have ro := qo0.keep hbd
  have hbr := hb0.trans (hbd.mono (HSS.out _ hb0))
  clear hbd hb0 qa0 qb0 qo0
  refine wpAnyU_take (i := 0) (v := _) HS.out (by rfl) (by kernel_rfl) (by kernel_rfl) (by kernel_rfl) (fun _ _ d _ _ h => by cases d <;> exact h) hdr (Steady.load_seg (by rfl) 25 (.tmp 2) (by rfl) (S) 0 4 (by rfl) 25 .u64 a a _ (fun w hw => hw.2.1) Try.underlying25 rfl (by kernel_rfl) (by rw [List.drop_zero, take_all La.out]) (by rw [La.out]; omega)) ?_
  simp only [List.getElem_toArray, List.getElem_cons_zero, List.getElem_cons_succ, Act.put, List.setIfInBounds_toArray, List.set_cons_zero, List.set_cons_succ]
  refine wpAnyU_take (i := 1) (v := .agg (vals .u64 x)) HS.out (by rfl) (by kernel_rfl) (by kernel_rfl) (by kernel_rfl) (fun _ _ d _ _ h => by cases d <;> exact h) hdr (Or.inl ⟨by rfl, fun w hw => (by unfold Oper.quietAt; go_simp; exact P1.out _)⟩) ?_
  simp only [List.getElem_toArray, List.getElem_cons_zero, List.getElem_cons_succ, Act.put, List.setIfInBounds_toArray, List.set_cons_zero, List.set_cons_succ]
  refine wpAnyU_take (i := 2) (v := _) HS.out (by rfl) (by kernel_rfl) (by kernel_rfl) (by kernel_rfl) (fun _ _ d _ _ h => by cases d <;> exact h) hdr (Steady.load_seg (by rfl) 25 (.tmp 3) (by rfl) (S + 1) 0 4 (by rfl) 25 .u64 b b _ (fun w hw => hw.2.2) Try.underlying25 rfl (by kernel_rfl) (by rw [List.drop_zero, take_all Lb.out]) (by rw [Lb.out]; omega)) ?_
  simp only [List.getElem_toArray, List.getElem_cons_zero, List.getElem_cons_succ, Act.put, List.setIfInBounds_toArray, List.set_cons_zero, List.set_cons_succ]
  refine wpAnyU_take (i := 3) (v := .agg (vals .u64 y)) HS.out (by rfl) (by kernel_rfl) (by kernel_rfl) (by kernel_rfl) (fun _ _ d _ _ h => by cases d <;> exact h) hdr (Or.inl ⟨by rfl, fun w hw => (by unfold Oper.quietAt; go_simp; exact P2.out _)⟩) ?_
  simp only [List.getElem_toArray, List.getElem_cons_zero, List.getElem_cons_succ, Act.put, List.setIfInBounds_toArray, List.set_cons_zero, List.set_cons_succ]
  refine wpAnyU_take (i := 4) (v := .agg (vals .u64 r)) HS.out (by rfl) (by kernel_rfl) (by kernel_rfl) (by kernel_rfl) (fun _ _ d _ _ h => by cases d <;> exact h) hdr (Or.inl ⟨by rfl, fun w hw => (by unfold Oper.quietAt; go_simp; exact P3.out _)⟩) ?_
  simp only [List.getElem_toArray, List.getElem_cons_zero, List.getElem_cons_succ, Act.put, List.setIfInBounds_toArray, List.set_cons_zero, List.set_cons_succ]
  refine wpAnyU_run (i := 5) (by rfl) (by kernel_rfl) (fun w1 hq => ?_)
  have ok1 := HS.out _ _ hdr hq
  have ra' := ra.keep hq
  have rb' := rb.keep hq
  have ro' := ro.keep hq
  have hbr' := hbr.trans (hq.mono (HSS.out _ hbr))
  clear hbr hq ra rb ro
  refine wpList_own (by rfl) ?_
  go_wp2_with (refine store_abs2 (by rfl) 25 (.tmp 4) (.tmp 9) (by rfl) (by rfl) (S + 2) (vals .u64 r) (by rfl) (by rfl) 25 _ ro' (by rw [vals_size, Lr.out]; kernel_rfl) (by first | rfl | (rw [vals_size, vals_size, Lr.out]; rfl)) vals_one ?_
               intro w2 ro hkeep hbg
               have ra := hkeep _ _ _ ra' (by omega)
               have rb := hkeep _ _ _ rb' (by omega)
               have hbr := hbr'.trans (hbg.mono (by omega))
               clear hkeep hbg hbr' ra' rb' ro')
  try refine ⟨⟨hbr, ra, rb⟩, ?_⟩
  have ok2 : (fun x : World => Below S w x ∧ Has x (S) 25 (vals .u64 a) ∧ Has x (S + 1) 25 (vals .u64 b)) w2 := ⟨hbr, ra, rb⟩
  clear ok1
  refine wpAnyU_end (by kernel_rfl) (fun w3 hq => ?_)
  have qa3 := ra.keep hq
  have qb3 := rb.keep hq
  have qo3 := ro.keep hq
  have hb3 := hbr.trans (hq.mono (HSS.out _ hbr))
  clear hq hbr ok2 HS  ra rb ro
  go_wp2
  refine bodyPost_ret (v := .agg (vals .u64 r)) (results_cell_row rfl _ _ (S + 2) _ _ _ _ rfl qo3.eq Try.underlying25 rfl (by rw [vals_size, Lr.out]; kernel_rfl)) rfl ⟨rfl, hb3⟩

set_option maxRecDepth 100000 in
set_option maxHeartbeats 2000000 in
theorem refWide_c4 (A : Option Addr) (n c : Nat) (l : List Int) (B : Nat) (w : World) (hr : Rd w B A n .u64 l) (hwl : Words l) (hB : B ≤ w.heap.size) (hn : n ≤ 10000) : Calls Try.prog 41 #[.slice A n c] w fun e w' => e = .returned (.agg (vals .u64 (fr (num l)))) ∧ Below w.heap.size w w' := by
  have LZ : Keep (Z4.length = 4) := ⟨rfl⟩
  have LM : Keep (mL.length = 4) := ⟨rfl⟩
  have HW : Keep (Words l) := ⟨hwl⟩
  have HN : Keep (n ≤ 10000) := ⟨hn⟩
  obtain ⟨r, hr_⟩ : ∃ o, fr (num l) = o := ⟨_, rfl⟩
  have Lr : Keep (r.length = 4) := ⟨by rw [← hr_]; exact fr_len _⟩
  have er : wd 4 (num l % num mL) = r := by rw [num_mL, ← hr_]; rfl
  have ER : Keep _ := ⟨er⟩
  rw [hr_]
  clear er hr_
  obtain ⟨S, hS⟩ : ∃ S, w.heap.size = S := ⟨_, rfl⟩
  have qo0 : Has (w.alloc (.cells (vals .u64 Z4) 25)) (S) 25 (vals .u64 Z4) := by exact (Has.new' _ hS.symm _ _)
  have hb0 : Below S w (w.alloc (.cells (vals .u64 Z4) 25)) := by rw [← hS]; exact ((Below.refl _ _).alloc (Nat.le_refl _) _)
  have hsz0 : (w.alloc (.cells (vals .u64 Z4) 25)).heap.size = S + 1 := by simp only [World.size_alloc, hS]
  have HS0 : Keep (S ≤ w.heap.size) := ⟨by omega⟩
  have HSS : Keep (∀ x : World, Below S w x → S ≤ x.heap.size) := ⟨fun x hb => Nat.le_trans HS0.out hb.size⟩
  rw [hS]
  have HRD : Keep (∀ x : World, Below S w x → Rd x x.heap.size A n .u64 l) := ⟨fun x hb => (hr.keep hb (by omega)).more (Nat.le_trans hB (Nat.le_trans (by omega) (HSS.out _ hb)))⟩
  clear hr hwl hB hn
  go_enter Try.func41, Try.ntmps41
  go_wp2_with (first
    | (go_at_call 61
       refine (refMod_c A n c l (some ⟨w1.heap.size, 0, none⟩) 4 4 mL w2.heap.size w2 (HRD.out _ hb2) HW.out (Rd.of_has qm2 qm2.lt (by rfl) (by decide)) mL_words (Nat.le_refl _) HN.out (by omega) (by rw [num_mL]; decide +kernel)).mono ?_
       rintro e w3 ⟨A3, c3, rfl, ho, hq⟩
       have qo3 := qo2.keep hq
       have qm3 := qm2.keep hq
       have hb3 := hb2.trans (hq.mono (HSS.out _ hb2))
       rw [ER.out] at ho
       have xr3 := ho.rd
       clear hq hb2 qo2 qm2)
    | (refine store_abs2 (by rfl) 25 (.tmp 3) (.tmp 6) (by rfl) (by rfl) (w1.heap.size) (vals .u64 mL) (by rfl) (by rfl) 25 (vals .u64 Z4) (Has.new' _ rfl _ _) (by rw [vals_size, LM.out]; kernel_rfl) (by first | rfl | (rw [vals_size, vals_size, LM.out]; rfl)) vals_one ?_
       intro w2 qm2 hkeep hbg
       have hbe := ((Below.refl (w1).heap.size (w1)).alloc (Nat.le_refl _) (.cells (vals .u64 Z4) 25)).trans hbg
       have Nom : Keep (S < w1.heap.size) := ⟨qo1.lt⟩
       have Mm : Keep (S ≤ w1.heap.size) := ⟨HSS.out _ hb1⟩
       have qo2 := qo1.keep hbe
       have hb2 := hb1.trans (hbe.mono (HSS.out _ hb1))
       clear hkeep hbg hbe hb1 qo1)
    | (go_at_call 13
       refine (refR_c _).mono ?_
       rintro e w1 ⟨rfl, hq⟩
       have qo1 := qo0.keep hq
       have hb1 := hb0.trans (hq.mono (HSS.out _ hb0))
       clear hq hb0 qo0))
  obtain ⟨b1, o1, rfl, hlt1, hcs⟩ := xr3.at_ (by omega)
  clear ho xr3
  obtain ⟨y0, hy0⟩ : ∃ y, nth r 0 = y := ⟨_, rfl⟩
  have k0 := hcs 0 (by omega)
  rw [hy0] at k0
  obtain ⟨y1, hy1⟩ : ∃ y, nth r 1 = y := ⟨_, rfl⟩
  have k1 := hcs 1 (by omega)
  rw [hy1] at k1
  obtain ⟨y2, hy2⟩ : ∃ y, nth r 2 = y := ⟨_, rfl⟩
  have k2 := hcs 2 (by omega)
  rw [hy2] at k2
  obtain ⟨y3, hy3⟩ : ∃ y, nth r 3 = y := ⟨_, rfl⟩
  have k3 := hcs 3 (by omega)
  rw [hy3] at k3
  have EY : r = [y0, y1, y2, y3] := ext_nth (by rw [Lr.out]; rfl) (fun i hi => by
    rw [Lr.out] at hi
    match i, hi with
    | 0, _ => exact hy0
    | 1, _ => exact hy1
    | 2, _ => exact hy2
    | 3, _ => exact hy3)
  clear hcs hy0 hy1 hy2 hy3
  subst EY
  go_wp2
  refine wp_write 13 (by rfl) (by kernel_rfl) (by kernel_rfl) (by kernel_rfl) (fun _ _ d _ _ h => by cases d <;> exact h) (fun I hI' fw hf hback => ?_)
  simp only [List.take_succ_cons, List.take_zero]
  have c0 : ∀ j, (fw j).cell? ⟨b1, o1, none⟩ = some (.int .u64 y0) := fun j => ((hf j).cell (p := ⟨b1, o1, none⟩) hlt1).trans k0
  have c1 : ∀ j, (fw j).cell? ⟨b1, o1 + 1, none⟩ = some (.int .u64 y1) := fun j => ((hf j).cell (p := ⟨b1, o1 + 1, none⟩) hlt1).trans k1
  have c2 : ∀ j, (fw j).cell? ⟨b1, o1 + 2, none⟩ = some (.int .u64 y2) := fun j => ((hf j).cell (p := ⟨b1, o1 + 2, none⟩) hlt1).trans k2
  have c3 : ∀ j, (fw j).cell? ⟨b1, o1 + 3, none⟩ = some (.int .u64 y3) := fun j => ((hf j).cell (p := ⟨b1, o1 + 3, none⟩) hlt1).trans k3
  repeat (first
    | (go_big_quiet_want
       refine quiet_build 25 #[(0, .tmp 15), (1, .tmp 18), (2, .tmp 21), (3, .tmp 24)] (by rfl) (vals .u64 [y0, y1, y2, y3]) (by kernel_rfl) ?_
       simp only [Act.put, List.setIfInBounds_toArray, List.set_cons_zero, List.set_cons_succ]
       go_big_quiet_on)
    | go_big_quiet_step (fail))
  refine wpQuiet_nil ?_
  intro w4 hq
  have qo4 := qo3.keep hq
  have qm4 := qm3.keep hq
  have hb4 := hb3.trans (hq.mono (HSS.out _ hb3))
  clear c0 c1 c2 c3 hf hback hq hb3 qo3 qm3 
  go_wp2_with (first
    | (refine store_abs2 (by rfl) 25 (.tmp 2) (.tmp 25) (by rfl) (by rfl) (S) (vals .u64 [y0, y1, y2, y3]) (by rfl) (by rfl) 25 _ qo4 (by rw [vals_size, Lr.out]; kernel_rfl) (by first | rfl | (rw [vals_size, vals_size, Lr.out]; rfl) | rw [vals_size, vals_size, Lr.out, LZ.out]) vals_one ?_
       intro w5 qo5 hkeep hbg
       have qm5 := hkeep _ _ _ qm4 (Nat.ne_of_gt Nom.out)
       have hb5 := hb4.trans (hbg.mono (by omega))
       clear hkeep hbg hb4 qo4 qm4))
  refine bodyPost_ret (v := .agg (vals .u64 [y0, y1, y2, y3])) (results_cell_row rfl _ _ (S) _ _ _ _ rfl qo5.eq Try.underlying25 rfl (by rw [vals_size, Lr.out]; kernel_rfl)) rfl ⟨rfl, hb5⟩

end Go.Proofs.Ythaoebamnlmfpaa.Fr
