/-
  Own text. The contracts of layer 5's landed package: someRoot, Is, Sign.
-/
import Derived.Test.YtpkfknmpegieaaaDoorMFprM
import Derived.Test.YtpkfknmpegieaaaDoorFpW19
import Derived.Test.YtpkfknmpegieaaaDoorMReg
namespace Go.Proofs.YtpkfknmpegieaaaDoor.Fpr
set_option linter.unusedVariables false
set_option linter.unusedSimpArgs false
open Go Go.RowKit Go.Proofs.YtpkfknmpegieaaaDoor.Reg Go.Proofs.YtpkfknmpegieaaaDoor.Base Go.Proofs.YtpkfknmpegieaaaDoor.Limb Go.Proofs.YtpkfknmpegieaaaDoor.Bits Go.Proofs.YtpkfknmpegieaaaDoor.Fp

set_option maxRecDepth 100000 in
set_option maxHeartbeats 2000000 in
theorem someRoot_c (a : List Int) (hla : a.length = 6) (hwa : Words a) (w : World) (hG : Glob w) : Calls Tryd.prog 75 #[.agg (vals .u64 a)] w fun e w' => e = .returned (.tuple #[.agg (vals .u64 (fe (pw (num a) QQ))), .bool (sq (num a))]) ∧ Below w.heap.size w w' := by
  obtain ⟨r, hr⟩ : ∃ o, fe (pw (num a) QQ) = o := ⟨_, rfl⟩
  have Lr : Keep (r.length = 6) := ⟨by rw [← hr]; exact fe_len _⟩
  have wr : Words r := by rw [← hr]; exact fe_words _
  have EQ := eqsq (num a)
  rw [hr] at EQ
  obtain ⟨m, hm⟩ : ∃ o, fe (num r * num r) = o := ⟨_, rfl⟩
  obtain ⟨x, hx⟩ : ∃ o, fe (num a) = o := ⟨_, rfl⟩
  obtain ⟨s, hs⟩ : ∃ s, sq (num a) = s := ⟨_, rfl⟩
  rw [hm, hx, hs] at EQ
  have P1 : Keep (∀ (x : World) (g : Nat), Has x g 24 (vals .u64 qL) → Glob x → Calls Tryd.prog 33 #[.agg (vals .u64 a), .slice (some ⟨g, 0, none⟩) 6 6] x fun e x' => e = .returned (.agg (vals .u64 r)) ∧ Below x.heap.size x x') := ⟨fun x g h hG => by
    have h1 := fpPow_c a hla hwa (some ⟨g, 0, none⟩) 6 6 qL x.heap.size x hG (Rd.of_has h h.lt (by rfl) (by decide)) qL_words (Nat.le_refl _) (by omega)
    rw [qL_num, hr] at h1
    exact h1⟩
  have P2 : Keep (∀ x : World, Glob x → _) := ⟨fun x (hG : Glob x) => fpMul_c r Lr.out wr r Lr.out wr x hG⟩
  rw [hm] at P2
  have P3 : Keep (∀ x : World, Glob x → _) := ⟨fun x (hG : Glob x) => fpReduce_c a hla hwa x hG⟩
  rw [hx] at P3
  rw [hr, hs]
  have La : Keep (a.length = 6) := ⟨hla⟩
  have Lo : Keep (Z6.length = 6) := ⟨rfl⟩
  have Lq : Keep (qL.length = 6) := ⟨rfl⟩
  have hgd := gd6
  obtain ⟨S, hS⟩ : ∃ S, w.heap.size = S := ⟨_, rfl⟩
  have qa0 : Has ((w.alloc (.cells (vals .u64 a) 25)).alloc (.cells (vals .u64 Z6) 25)) (S) 25 (vals .u64 a) := by exact ((Has.new' _ hS.symm _ _).alloc _)
  have qo0 : Has ((w.alloc (.cells (vals .u64 a) 25)).alloc (.cells (vals .u64 Z6) 25)) (S + 1) 25 (vals .u64 Z6) := by exact (Has.new' _ (by simp only [World.size_alloc, hS]) _ _)
  have hb0 : Below S w ((w.alloc (.cells (vals .u64 a) 25)).alloc (.cells (vals .u64 Z6) 25)) := by rw [← hS]; exact (((Below.refl _ _).alloc (Nat.le_refl _) _).alloc (by simp) _)
  have hsz0 : ((w.alloc (.cells (vals .u64 a) 25)).alloc (.cells (vals .u64 Z6) 25)).heap.size = S + 2 := by simp only [World.size_alloc, hS]
  have HS0 : Keep (S ≤ w.heap.size) := ⟨by omega⟩
  have HSS : Keep (∀ x : World, Below S w x → S ≤ x.heap.size) := ⟨fun x hb => Nat.le_trans HS0.out hb.size⟩
  have HG : Keep (∀ x : World, Below S w x → Glob x) := ⟨fun x hb => hG.keep (by rw [hS]; exact hb)⟩
  rw [hS]
  clear hr hm hx hs hla hwa wr hG
  go_enter Tryd.func75, Tryd.ntmps75
  go_wp2_with (first
    | (refine store_abs2 (by rfl) 24 (.tmp 4) (.tmp 6) (by rfl) (by rfl) (S + 2) (vals .u64 qL) (by rfl) (by rfl) 24 (vals .u64 Z6) (Has.new' _ (by simp only [World.size_alloc, hS]) _ _) (by rw [vals_size, Lq.out]; kernel_rfl) (by first | rfl | (rw [vals_size, vals_size, Lq.out]; rfl)) vals_one ?_
       intro w1 qk1 hkeep hbg
       have hbe := ((Below.refl (((w.alloc (.cells (vals .u64 a) 25)).alloc (.cells (vals .u64 Z6) 25))).heap.size (((w.alloc (.cells (vals .u64 a) 25)).alloc (.cells (vals .u64 Z6) 25)))).alloc (Nat.le_refl _) (.cells (vals .u64 Z6) 24)).trans (by rw [hsz0]; exact hbg)
       have Nak : Keep (S < S + 2) := ⟨by rw [← hsz0]; exact qa0.lt⟩
       have Nok : Keep (S + 1 < S + 2) := ⟨by rw [← hsz0]; exact qo0.lt⟩
       have Mk : Keep (S ≤ S + 2) := ⟨by omega⟩
       have qa1 := qa0.keep hbe
       have qo1 := qo0.keep hbe
       have hb1 := hb0.trans (hbe.mono (HSS.out _ hb0))
       clear hkeep hbg hbe hb0 qa0 qo0)
    | (refine wpList_buildTo (by rfl) 24 #[(0, .const (.int .u64 17185665809301629611)), (1, .const (.int .u64 552535377879302143)), (2, .const (.int .u64 15693976698673184137)), (3, .const (.int .u64 15644892545385841839)), (4, .const (.int .u64 10576397981472451381)), (5, .const (.int .u64 468449654411884966))] (by rfl) (some 6) (by rfl) (vals .u64 qL) (by kernel_rfl) ?_))
  have HS : Keep (∀ x x' : World, (fun x : World => Below S w x ∧ Has x (S) 25 (vals .u64 a) ∧ Has x (S + 2) 24 (vals .u64 qL)) x → Below x.heap.size x x' → (fun x : World => Below S w x ∧ Has x (S) 25 (vals .u64 a) ∧ Has x (S + 2) 24 (vals .u64 qL)) x') := ⟨fun x x' h hb => by
    obtain ⟨hB, ha_, hk_⟩ := h
    exact ⟨hB.trans (hb.mono (HSS.out _ hB)), ha_.keep hb, hk_.keep hb⟩⟩
  have hdr : (fun x : World => Below S w x ∧ Has x (S) 25 (vals .u64 a) ∧ Has x (S + 2) 24 (vals .u64 qL)) w1.drew := HS.out _ _ ⟨hb1, qa1, qk1⟩ ⟨rfl, rfl, rfl, Nat.le_refl _, fun _ _ => rfl⟩
  have hbd : Below w1.heap.size w1 w1.drew := ⟨rfl, rfl, rfl, Nat.le_refl _, fun _ _ => rfl⟩
  refine wp_regionU (S := (fun x : World => Below S w x ∧ Has x (S) 25 (vals .u64 a) ∧ Has x (S + 2) 24 (vals .u64 qL))) (by kernel_rfl) ?_
  change wpAnyU _ _ _ _ _ 5 _ _ _
  have ra := qa1.keep hbd
  have ro := qo1.keep hbd
  have rk := qk1.keep hbd
  have hbr := hb1.trans (hbd.mono (HSS.out _ hb1))
  clear hbd hb1 qa1 qo1 qk1
  refine wpAnyU_take (i := 0) (v := _) HS.out (by rfl) (by kernel_rfl) (by kernel_rfl) (by kernel_rfl) (fun _ _ d _ _ h => by cases d <;> exact h) hdr (Steady.load_seg (by rfl) 25 (.tmp 1) (by rfl) (S) 0 6 (by rfl) 25 .u64 a a _ (fun w hw => hw.2.1) Tryd.underlying25 rfl (by kernel_rfl) (by rw [List.drop_zero, take_all La.out]) (by rw [La.out]; omega)) ?_
  simp only [List.getElem_toArray, List.getElem_cons_zero, List.getElem_cons_succ, Act.put, List.setIfInBounds_toArray, List.set_cons_zero, List.set_cons_succ]
  refine wpAnyU_take (i := 1) (v := _) HS.out (by rfl) (by kernel_rfl) (by kernel_rfl) (by kernel_rfl) (fun _ _ d _ _ h => by cases d <;> exact h) hdr (Steady.of_yields (Or.inl ⟨by rfl, fun w => (by first | (go_simp; done) | (go_simp; with_reducible rfl))⟩)) ?_
  simp only [List.getElem_toArray, List.getElem_cons_zero, List.getElem_cons_succ, Act.put, List.setIfInBounds_toArray, List.set_cons_zero, List.set_cons_succ]
  refine wpAnyU_take (i := 2) (v := .agg (vals .u64 r)) HS.out (by rfl) (by kernel_rfl) (by kernel_rfl) (by kernel_rfl) (fun _ _ d _ _ h => by cases d <;> exact h) hdr (Or.inl ⟨by rfl, fun w hw => (by unfold Oper.quietAt; go_simp; exact P1.out _ _ (hw.2.2) (HG.out _ (hw.1)))⟩) ?_
  simp only [List.getElem_toArray, List.getElem_cons_zero, List.getElem_cons_succ, Act.put, List.setIfInBounds_toArray, List.set_cons_zero, List.set_cons_succ]
  refine wpAnyU_run (i := 3) (by rfl) (by kernel_rfl) (fun w2 hq => ?_)
  have ok2 := HS.out _ _ hdr hq
  have ra' := ra.keep hq
  have ro' := ro.keep hq
  have rk' := rk.keep hq
  have hbr' := hbr.trans (hq.mono (HSS.out _ hbr))
  clear hbr hq ra ro rk
  have Nar : Keep (S < w2.heap.size) := ⟨ra'.lt⟩
  have Nor : Keep (S + 1 < w2.heap.size) := ⟨ro'.lt⟩
  have Nkr : Keep (S + 2 < w2.heap.size) := ⟨rk'.lt⟩
  have Mr : Keep (S ≤ w2.heap.size) := ⟨HSS.out _ hbr'⟩
  have hal : Below w2.heap.size w2 (w2.alloc (.cells (vals .u64 Z6) 25)) := (Below.refl _ _).alloc (Nat.le_refl _) _
  have ok3 := HS.out _ _ ok2 hal
  have ra := ra'.keep hal
  have ro := ro'.keep hal
  have rk := rk'.keep hal
  have rr : Has (w2.alloc (.cells (vals .u64 Z6) 25)) w2.heap.size 25 (vals .u64 Z6) := Has.new _ _ _
  have hbr := hbr'.trans (hal.mono (HSS.out _ hbr'))
  clear hal hbr' ok2 ra' ro' rk'
  refine wpList_own (by rfl) ?_
  go_wp2
  try refine ⟨ok3, ?_⟩
  obtain ⟨gr, hgr⟩ : ∃ g, w2.heap.size = g := ⟨_, rfl⟩
  obtain ⟨w3, hw3⟩ : ∃ x, w2.alloc (.cells (vals .u64 Z6) 25) = x := ⟨_, rfl⟩
  change wpAnyU _ _ _ _ _ _ _ _ (w2.alloc (.cells (vals .u64 Z6) 25))
  rw [hw3] at ok3 hbr ra ro rk rr ⊢
  rw [hgr] at rr Mr Nar Nor Nkr ⊢
  clear hgr hw3
  refine wpAnyU_run (i := 4) (by rfl) (by kernel_rfl) (fun w4 hq => ?_)
  have ok4 := HS.out _ _ ok3 hq
  have ra' := ra.keep hq
  have ro' := ro.keep hq
  have rk' := rk.keep hq
  have rr' := rr.keep hq
  have hbr' := hbr.trans (hq.mono (HSS.out _ hbr))
  clear hbr hq ra ro rk rr
  refine wpList_own (by rfl) ?_
  go_wp2_with (refine store_abs2 (by rfl) 25 (.tmp 5) (.tmp 9) (by rfl) (by rfl) (gr) (vals .u64 r) (by rfl) (by rfl) 25 _ rr' (by rw [vals_size, Lr.out]; kernel_rfl) (by first | rfl | (rw [vals_size, vals_size, Lr.out]; rfl)) vals_one ?_
               intro w5 rr hkeep hbg
               have ra := hkeep _ _ _ ra' (Nat.ne_of_lt Nar.out)
               have ro := hkeep _ _ _ ro' (Nat.ne_of_lt Nor.out)
               have rk := hkeep _ _ _ rk' (Nat.ne_of_lt Nkr.out)
               have hbr := hbr'.trans (hbg.mono Mr.out)
               clear hkeep hbg hbr' ra' ro' rk' rr')
  try refine ⟨⟨hbr, ra, rk⟩, ?_⟩
  have ok5 : (fun x : World => Below S w x ∧ Has x (S) 25 (vals .u64 a) ∧ Has x (S + 2) 24 (vals .u64 qL)) w5 := ⟨hbr, ra, rk⟩
  clear ok4
  refine wpAnyU_end (by kernel_rfl) (fun w6 hq => ?_)
  have qa6 := ra.keep hq
  have qo6 := ro.keep hq
  have qk6 := rk.keep hq
  have qr6 := rr.keep hq
  have hb6 := hbr.trans (hq.mono (HSS.out _ hbr))
  clear hq hbr ok5 HS  ra ro rk rr
  go_wp2
  have HS : Keep (∀ x x' : World, (fun x : World => Below S w x ∧ Has x (S) 25 (vals .u64 a) ∧ Has x (gr) 25 (vals .u64 r)) x → Below x.heap.size x x' → (fun x : World => Below S w x ∧ Has x (S) 25 (vals .u64 a) ∧ Has x (gr) 25 (vals .u64 r)) x') := ⟨fun x x' h hb => by
    obtain ⟨hB, ha_, hr_⟩ := h
    exact ⟨hB.trans (hb.mono (HSS.out _ hB)), ha_.keep hb, hr_.keep hb⟩⟩
  have hdr : (fun x : World => Below S w x ∧ Has x (S) 25 (vals .u64 a) ∧ Has x (gr) 25 (vals .u64 r)) w6.drew := HS.out _ _ ⟨hb6, qa6, qr6⟩ ⟨rfl, rfl, rfl, Nat.le_refl _, fun _ _ => rfl⟩
  have hbd : Below w6.heap.size w6 w6.drew := ⟨rfl, rfl, rfl, Nat.le_refl _, fun _ _ => rfl⟩
  refine wp_regionU (S := (fun x : World => Below S w x ∧ Has x (S) 25 (vals .u64 a) ∧ Has x (gr) 25 (vals .u64 r))) (by kernel_rfl) ?_
  change wpAnyU _ _ _ _ _ 9 _ _ _
  have ra := qa6.keep hbd
  have ro := qo6.keep hbd
  have rk := qk6.keep hbd
  have rr := qr6.keep hbd
  have hbr := hb6.trans (hbd.mono (HSS.out _ hb6))
  clear hbd hb6 qa6 qo6 qk6 qr6
  refine wpAnyU_take (i := 0) (v := _) HS.out (by rfl) (by kernel_rfl) (by kernel_rfl) (by kernel_rfl) (fun _ _ d _ _ h => by cases d <;> exact h) hdr (Steady.load_seg (by rfl) 25 (.tmp 5) (by rfl) (gr) 0 6 (by rfl) 25 .u64 r r _ (fun w hw => hw.2.2) Tryd.underlying25 rfl (by kernel_rfl) (by rw [List.drop_zero, take_all Lr.out]) (by rw [Lr.out]; omega)) ?_
  simp only [List.getElem_toArray, List.getElem_cons_zero, List.getElem_cons_succ, Act.put, List.setIfInBounds_toArray, List.set_cons_zero, List.set_cons_succ]
  refine wpAnyU_take (i := 1) (v := _) HS.out (by rfl) (by kernel_rfl) (by kernel_rfl) (by kernel_rfl) (fun _ _ d _ _ h => by cases d <;> exact h) hdr (Steady.load_seg (by rfl) 25 (.tmp 5) (by rfl) (gr) 0 6 (by rfl) 25 .u64 r r _ (fun w hw => hw.2.2) Tryd.underlying25 rfl (by kernel_rfl) (by rw [List.drop_zero, take_all Lr.out]) (by rw [Lr.out]; omega)) ?_
  simp only [List.getElem_toArray, List.getElem_cons_zero, List.getElem_cons_succ, Act.put, List.setIfInBounds_toArray, List.set_cons_zero, List.set_cons_succ]
  refine wpAnyU_take (i := 2) (v := _) HS.out (by rfl) (by kernel_rfl) (by kernel_rfl) (by kernel_rfl) (fun _ _ d _ _ h => by cases d <;> exact h) hdr (Steady.load_seg (by rfl) 25 (.tmp 5) (by rfl) (gr) 0 6 (by rfl) 25 .u64 r r _ (fun w hw => hw.2.2) Tryd.underlying25 rfl (by kernel_rfl) (by rw [List.drop_zero, take_all Lr.out]) (by rw [Lr.out]; omega)) ?_
  simp only [List.getElem_toArray, List.getElem_cons_zero, List.getElem_cons_succ, Act.put, List.setIfInBounds_toArray, List.set_cons_zero, List.set_cons_succ]
  refine wpAnyU_take (i := 3) (v := .agg (vals .u64 m)) HS.out (by rfl) (by kernel_rfl) (by kernel_rfl) (by kernel_rfl) (fun _ _ d _ _ h => by cases d <;> exact h) hdr (Or.inl ⟨by rfl, fun w hw => (by unfold Oper.quietAt; go_simp; exact P2.out _ (HG.out _ (hw.1)))⟩) ?_
  simp only [List.getElem_toArray, List.getElem_cons_zero, List.getElem_cons_succ, Act.put, List.setIfInBounds_toArray, List.set_cons_zero, List.set_cons_succ]
  refine wpAnyU_take (i := 4) (v := _) HS.out (by rfl) (by kernel_rfl) (by kernel_rfl) (by kernel_rfl) (fun _ _ d _ _ h => by cases d <;> exact h) hdr (Steady.load_seg (by rfl) 25 (.tmp 1) (by rfl) (S) 0 6 (by rfl) 25 .u64 a a _ (fun w hw => hw.2.1) Tryd.underlying25 rfl (by kernel_rfl) (by rw [List.drop_zero, take_all La.out]) (by rw [La.out]; omega)) ?_
  simp only [List.getElem_toArray, List.getElem_cons_zero, List.getElem_cons_succ, Act.put, List.setIfInBounds_toArray, List.set_cons_zero, List.set_cons_succ]
  refine wpAnyU_take (i := 5) (v := .agg (vals .u64 x)) HS.out (by rfl) (by kernel_rfl) (by kernel_rfl) (by kernel_rfl) (fun _ _ d _ _ h => by cases d <;> exact h) hdr (Or.inl ⟨by rfl, fun w hw => (by unfold Oper.quietAt; go_simp; exact P3.out _ (HG.out _ (hw.1)))⟩) ?_
  simp only [List.getElem_toArray, List.getElem_cons_zero, List.getElem_cons_succ, Act.put, List.setIfInBounds_toArray, List.set_cons_zero, List.set_cons_succ]
  refine wpAnyU_take (i := 6) (v := .bool s) HS.out (by rfl) (by kernel_rfl) (by kernel_rfl) (by kernel_rfl) (fun _ _ d _ _ h => by cases d <;> exact h) hdr (Steady.of_yields (Or.inl ⟨by rfl, fun w => (by go_simp)⟩)) ?_
  simp only [List.getElem_toArray, List.getElem_cons_zero, List.getElem_cons_succ, Act.put, List.setIfInBounds_toArray, List.set_cons_zero, List.set_cons_succ]
  refine wpAnyU_run (i := 7) (by rfl) (by kernel_rfl) (fun w7 hq => ?_)
  have ok7 := HS.out _ _ hdr hq
  have ra' := ra.keep hq
  have ro' := ro.keep hq
  have rk' := rk.keep hq
  have rr' := rr.keep hq
  have hbr' := hbr.trans (hq.mono (HSS.out _ hbr))
  clear hbr hq ra ro rk rr
  refine wpList_own (by rfl) ?_
  go_wp2_with (refine store_abs2 (by rfl) 25 (.tmp 2) (.tmp 10) (by rfl) (by rfl) (S + 1) (vals .u64 r) (by rfl) (by rfl) 25 _ ro' (by rw [vals_size, Lr.out]; kernel_rfl) (by first | rfl | (rw [vals_size, vals_size, Lr.out]; rfl)) vals_one ?_
               intro w8 ro hkeep hbg
               have ra := hkeep _ _ _ ra' (by omega)
               have rk := hkeep _ _ _ rk' (Nat.ne_of_gt Nok.out)
               have rr := hkeep _ _ _ rr' (Nat.ne_of_gt Nor.out)
               have hbr := hbr'.trans (hbg.mono (by omega))
               clear hkeep hbg hbr' ra' ro' rk' rr')
  try refine ⟨⟨hbr, ra, rr⟩, ?_⟩
  have ok8 : (fun x : World => Below S w x ∧ Has x (S) 25 (vals .u64 a) ∧ Has x (gr) 25 (vals .u64 r)) w8 := ⟨hbr, ra, rr⟩
  clear ok7
  refine wpAnyU_take (i := 8) (v := _) HS.out (by rfl) (by kernel_rfl) (by kernel_rfl) (by kernel_rfl) (fun _ _ d _ _ h => by cases d <;> exact h) ok8 (Steady.of_yields (Or.inl ⟨by rfl, fun w => (by first | (go_simp; done) | (go_simp; with_reducible rfl))⟩)) ?_
  simp only [List.getElem_toArray, List.getElem_cons_zero, List.getElem_cons_succ, Act.put, List.setIfInBounds_toArray, List.set_cons_zero, List.set_cons_succ]
  refine wpAnyU_end (by kernel_rfl) (fun w9 hq => ?_)
  have qa9 := ra.keep hq
  have qo9 := ro.keep hq
  have qk9 := rk.keep hq
  have qr9 := rr.keep hq
  have hb9 := hbr.trans (hq.mono (HSS.out _ hbr))
  clear hq hbr ok8 HS  ra ro rk rr
  go_wp2
  refine bodyPost_ret (v := .tuple #[.agg (vals .u64 r), .bool s]) (results_row_tmp rfl _ _ (S + 1) _ _ _ _ _ rfl rfl qo9.eq Tryd.underlying25 rfl (by rw [vals_size, Lr.out]; kernel_rfl)) rfl ⟨rfl, hb9⟩

set_option maxRecDepth 100000 in
set_option maxHeartbeats 2000000 in
theorem is_c (a : List Int) (hla : a.length = 6) (hwa : Words a) (w : World) (hG : Glob w) : Calls Tryd.prog 46 #[.agg (vals .u64 a)] w fun e w' => e = .returned (.bool (sq (num a))) ∧ Below w.heap.size w w' := by
  have P1 : Keep (∀ x : World, Glob x → _) := ⟨fun x (hG : Glob x) => someRoot_c a hla hwa x hG⟩
  obtain ⟨r, hr⟩ : ∃ o, fe (pw (num a) QQ) = o := ⟨_, rfl⟩
  have Lr : Keep (r.length = 6) := ⟨by rw [← hr]; exact fe_len _⟩
  obtain ⟨s, hs⟩ : ∃ s, sq (num a) = s := ⟨_, rfl⟩
  rw [hr, hs] at P1
  rw [hs]
  have La : Keep (a.length = 6) := ⟨hla⟩
  have Lo : Keep (Z6.length = 6) := ⟨rfl⟩
  obtain ⟨S, hS⟩ : ∃ S, w.heap.size = S := ⟨_, rfl⟩
  have qa0 : Has (w.alloc (.cells (vals .u64 a) 25)) (S) 25 (vals .u64 a) := by exact (Has.new' _ hS.symm _ _)
  have hb0 : Below S w (w.alloc (.cells (vals .u64 a) 25)) := by rw [← hS]; exact ((Below.refl _ _).alloc (Nat.le_refl _) _)
  have hsz0 : (w.alloc (.cells (vals .u64 a) 25)).heap.size = S + 1 := by simp only [World.size_alloc, hS]
  have HS0 : Keep (S ≤ w.heap.size) := ⟨by omega⟩
  have HSS : Keep (∀ x : World, Below S w x → S ≤ x.heap.size) := ⟨fun x hb => Nat.le_trans HS0.out hb.size⟩
  have HG : Keep (∀ x : World, Below S w x → Glob x) := ⟨fun x hb => hG.keep (by rw [hS]; exact hb)⟩
  rw [hS]
  clear hr hs hla hwa hG
  go_enter Tryd.func46, Tryd.ntmps46
  go_wp2_with (first
    | (refine store_abs2 (by rfl) 25 (.tmp 3) (.tmp 8) (by rfl) (by rfl) (w1.heap.size) (vals .u64 r) (by rfl) (by rfl) 25 (vals .u64 Z6) (Has.new' _ rfl _ _) (by rw [vals_size, Lr.out]; kernel_rfl) (by first | rfl | (rw [vals_size, vals_size, Lr.out]; rfl)) vals_one ?_
       intro w2 qr2 hkeep hbg
       have hbe := ((Below.refl (w1).heap.size (w1)).alloc (Nat.le_refl _) (.cells (vals .u64 Z6) 25)).trans hbg
       have Nar : Keep (S < w1.heap.size) := ⟨qa1.lt⟩
       have Mr : Keep (S ≤ w1.heap.size) := ⟨HSS.out _ hb1⟩
       have qa2 := qa1.keep hbe
       have hb2 := hb1.trans (hbe.mono (HSS.out _ hb1))
       clear hkeep hbg hbe hb1 qa1)
    | (go_at_call 75
       refine (P1.out _ (HG.out _ hb0)).mono ?_
       rintro e w1 ⟨rfl, hq⟩
       have qa1 := qa0.keep hq
       have hb1 := hb0.trans (hq.mono (HSS.out _ hb0))
       clear hq hb0 qa0)
    | (refine wpList_load_row rfl 25 (.tmp 1) rfl (S) rfl _ _ _ _ qa0.eq Tryd.underlying25 rfl (by rw [vals_size, La.out]; kernel_rfl) ?_))
  go_ret
  exact ⟨rfl, hb2⟩

set_option maxRecDepth 100000 in
set_option maxHeartbeats 2000000 in
theorem sign_c (a : List Int) (hla : a.length = 6) (hwa : Words a) (w : World) (hG : Glob w) : Calls Tryd.prog 48 #[.agg (vals .u64 a)] w fun e w' => e = .returned (.int .i64 (sgn (num a))) ∧ Below w.heap.size w w' := by
  have P1 : Keep (∀ x : World, Glob x → _) := ⟨fun x (hG : Glob x) => fpReduce_c a hla hwa x hG⟩
  obtain ⟨r, hr⟩ : ∃ o, fe (num a) = o := ⟨_, rfl⟩
  have Lr : Keep (r.length = 6) := ⟨by rw [← hr]; exact fe_len _⟩
  obtain ⟨s, hs⟩ : ∃ s, sgn (num a) = s := ⟨_, rfl⟩
  have hz : nth r 0 % 2 = s := by rw [← hr, ← hs]; exact sgn_nth _
  have hw0 : 0 ≤ nth r 0 ∧ nth r 0 ≤ 18446744073709551615 := by rw [← hr]; exact fe_words _ 0
  have h01 : 0 ≤ s ∧ s ≤ 1 := by have := sgn_or (num a); omega
  rw [hr] at P1
  rw [hs]
  obtain ⟨x0, hx0⟩ : ∃ x, nth r 0 = x := ⟨_, rfl⟩
  have IX : ∀ w : World, (Instr.index 25 (.agg (vals .u64 r)) (.int .i64 0)).run Tryd.prog w = .ok (.int .u64 (nth r 0)) w := fun w => run_index_vals (i := 0) Tryd.underlying25 Tryd.underlying23 rfl (by kernel_rfl) Lr.out (by omega) w
  rw [hx0] at hz hw0 IX
  have La : Keep (a.length = 6) := ⟨hla⟩
  have Lo : Keep (Z6.length = 6) := ⟨rfl⟩
  obtain ⟨S, hS⟩ : ∃ S, w.heap.size = S := ⟨_, rfl⟩
  have qa0 : Has (w.alloc (.cells (vals .u64 a) 25)) (S) 25 (vals .u64 a) := by exact (Has.new' _ hS.symm _ _)
  have hb0 : Below S w (w.alloc (.cells (vals .u64 a) 25)) := by rw [← hS]; exact ((Below.refl _ _).alloc (Nat.le_refl _) _)
  have hsz0 : (w.alloc (.cells (vals .u64 a) 25)).heap.size = S + 1 := by simp only [World.size_alloc, hS]
  have HS0 : Keep (S ≤ w.heap.size) := ⟨by omega⟩
  have HSS : Keep (∀ x : World, Below S w x → S ≤ x.heap.size) := ⟨fun x hb => Nat.le_trans HS0.out hb.size⟩
  have HG : Keep (∀ x : World, Below S w x → Glob x) := ⟨fun x hb => hG.keep (by rw [hS]; exact hb)⟩
  rw [hS]
  clear hr hs hla hwa hG
  go_enter Tryd.func48, Tryd.ntmps48
  go_wp2_with (first
    | (go_at_call 21
       refine (P1.out _ (HG.out _ hb0)).mono ?_
       rintro e w1 ⟨rfl, hq⟩
       have qa1 := qa0.keep hq
       have hb1 := hb0.trans (hq.mono (HSS.out _ hb0))
       clear hq hb0 qa0)
    | (refine wpList_load_row rfl 25 (.tmp 1) rfl (S) rfl _ _ _ _ qa0.eq Tryd.underlying25 rfl (by rw [vals_size, La.out]; kernel_rfl) ?_))
  go_ret
  exact ⟨rfl, hb1⟩

end Go.Proofs.YtpkfknmpegieaaaDoor.Fpr
