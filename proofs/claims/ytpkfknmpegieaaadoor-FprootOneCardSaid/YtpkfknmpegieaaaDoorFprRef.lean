/-
  Own text. The contracts of layer 5's reference: quarter, root, Is, Sign.
-/
import Derived.Test.YtpkfknmpegieaaaDoorMFprM
import Derived.Test.YtpkfknmpegieaaaDoorMFpR
import Derived.Test.YtpkfknmpegieaaaDoorFpW1
import Derived.Test.YtpkfknmpegieaaaDoorMReg
namespace Go.Proofs.YtpkfknmpegieaaaDoor.Fpr
set_option linter.unusedVariables false
set_option linter.unusedSimpArgs false
open Go Go.RowKit Go.Proofs.YtpkfknmpegieaaaDoor.Reg Go.Proofs.YtpkfknmpegieaaaDoor.Base Go.Proofs.YtpkfknmpegieaaaDoor.Limb Go.Proofs.YtpkfknmpegieaaaDoor.Bits Go.Proofs.YtpkfknmpegieaaaDoor.Fp

set_option maxRecDepth 100000 in
set_option maxHeartbeats 2000000 in
theorem refQuarter_c (w : World) : Calls Tryd.prog 96 #[] w fun e w' => e = .returned (.slice (some ⟨w.heap.size, 0, none⟩) 6 6) ∧ Has w' w.heap.size 23 (vals .u64 qL) ∧ Below w.heap.size w w' := by
  have hb := (Below.refl w.heap.size w).alloc (Nat.le_refl _) (.cells (vals .u64 qL) 23)
  have hq : Has (w.alloc (.cells (vals .u64 qL) 23)) w.heap.size 23 (vals .u64 qL) := Has.new _ _ _
  go_enter Tryd.func96, Tryd.ntmps96
  go_wp2
  go_ret
  exact ⟨rfl, hq, hb⟩

set_option maxRecDepth 100000 in
set_option maxHeartbeats 2000000 in
theorem refRoot_c (a : List Int) (hla : a.length = 6) (hwa : Words a) (w : World) : Calls Tryd.prog 78 #[.agg (vals .u64 a)] w fun e w' => e = .returned (.tuple #[.agg (vals .u64 (fe (pw (num a) QQ))), .bool (sq (num a))]) ∧ Below w.heap.size w w' := by
  obtain ⟨r, hr⟩ : ∃ o, fe (pw (num a) QQ) = o := ⟨_, rfl⟩
  have Lr : Keep (r.length = 6) := ⟨by rw [← hr]; exact fe_len _⟩
  have wr : Words r := by rw [← hr]; exact fe_words _
  have EQ := eqsq (num a)
  rw [hr] at EQ
  obtain ⟨m, hm⟩ : ∃ o, fe (num r * num r) = o := ⟨_, rfl⟩
  obtain ⟨x, hx⟩ : ∃ o, fe (num a) = o := ⟨_, rfl⟩
  obtain ⟨s, hs⟩ : ∃ s, sq (num a) = s := ⟨_, rfl⟩
  rw [hm, hx, hs] at EQ
  have P1 : Keep (∀ (x : World) (A : Option Addr), Rd x x.heap.size A 6 .u64 qL → Calls Tryd.prog 34 #[.agg (vals .u64 a), .slice A 6 6] x fun e x' => e = .returned (.agg (vals .u64 r)) ∧ Below x.heap.size x x') := ⟨fun x A h => by
    have h1 := refFpPow_c a hla hwa A 6 6 qL x.heap.size x h qL_words (Nat.le_refl _) (by omega)
    rw [qL_num, hr] at h1
    exact h1⟩
  have P2 : Keep (∀ x : World, _) := ⟨fun x => refFpMul_c r r Lr.out wr Lr.out wr x⟩
  rw [hm] at P2
  have P3 : Keep (∀ x : World, _) := ⟨fun x => refReduce_c a hla hwa x⟩
  rw [hx] at P3
  rw [hr, hs]
  have La : Keep (a.length = 6) := ⟨hla⟩
  have Lo : Keep (Z6.length = 6) := ⟨rfl⟩
  have Lq : Keep (qL.length = 6) := ⟨rfl⟩
  have hgd := gd6
  obtain ⟨S, hS⟩ : ∃ S, w.heap.size = S := ⟨_, rfl⟩
  have qa0 : Has ((w.alloc (.cells (vals .u64 a) 25)).alloc (.cells (vals .u64 Z6) 25)) (S) 25 (vals .u64 a) := by exact ((Has.new' _ hS.symm _ _).alloc _)
  have qo0 : Has ((w.alloc (.cells (vals .u64 a) 25)).alloc (.cells (vals .u64 Z6) 25)) (S + 1) 25 (vals .u64 Z6) := by exact (Has.new' _ (by simp only [World.size_alloc, hS]) _ _)
  have hb0 : Below S w ((w.alloc (.cells (vals .u64 a) 25)).alloc (.cells (vals .u64 Z6) 25)) := by rw [← hS]; exact (((Below.refl _ _).alloc (Nat.le_refl _) _).alloc (by simp) _)
  have hsz0 : ((w.alloc (.cells (vals .u64 a) 25)).alloc (.cells (vals .u64 Z6) 25)).heap.size = S + 2 := by simp only [World.size_alloc, hS]
  have HS0 : Keep (S ≤ w.heap.size) := ⟨by omega⟩
  have HSS : Keep (∀ x : World, Below S w x → S ≤ x.heap.size) := ⟨fun x hb => Nat.le_trans HS0.out hb.size⟩
  rw [hS]
  clear hr hm hx hs hla hwa wr
  go_enter Tryd.func78, Tryd.ntmps78
  go_wp2
  change Code.wp _ _ _ _ (((w.alloc (.cells (vals .u64 a) 25)).alloc (.cells (vals .u64 Z6) 25)))
  obtain ⟨w0, hw0⟩ : ∃ x, ((w.alloc (.cells (vals .u64 a) 25)).alloc (.cells (vals .u64 Z6) 25)) = x := ⟨_, rfl⟩
  rw [hw0] at hb0 qa0 qo0 ⊢
  clear hw0
  have HS : Keep (∀ x x' : World, (fun x : World => Below S w x ∧ Has x (S) 25 (vals .u64 a)) x → Below x.heap.size x x' → (fun x : World => Below S w x ∧ Has x (S) 25 (vals .u64 a)) x') := ⟨fun x x' h hb => by
    obtain ⟨hB, ha_⟩ := h
    exact ⟨hB.trans (hb.mono (HSS.out _ hB)), ha_.keep hb⟩⟩
  have hdr : (fun x : World => Below S w x ∧ Has x (S) 25 (vals .u64 a)) w0.drew := HS.out _ _ ⟨hb0, qa0⟩ ⟨rfl, rfl, rfl, Nat.le_refl _, fun _ _ => rfl⟩
  have hbd : Below w0.heap.size w0 w0.drew := ⟨rfl, rfl, rfl, Nat.le_refl _, fun _ _ => rfl⟩
  refine wp_regionU (S := (fun x : World => Below S w x ∧ Has x (S) 25 (vals .u64 a))) (by kernel_rfl) ?_
  change wpAnyU _ _ _ _ _ 5 _ _ _
  have ra := qa0.keep hbd
  have ro := qo0.keep hbd
  have hbr := hb0.trans (hbd.mono (HSS.out _ hb0))
  clear hbd hb0 qa0 qo0
  refine wpAnyU_take (i := 0) (v := _) HS.out (by rfl) (by kernel_rfl) (by kernel_rfl) (by kernel_rfl) (fun _ _ d _ _ h => by cases d <;> exact h) hdr (Steady.load_seg (by rfl) 25 (.tmp 1) (by rfl) (S) 0 6 (by rfl) 25 .u64 a a _ (fun w hw => hw.2) Tryd.underlying25 rfl (by kernel_rfl) (by rw [List.drop_zero, take_all La.out]) (by rw [La.out]; omega)) ?_
  simp only [List.getElem_toArray, List.getElem_cons_zero, List.getElem_cons_succ, Act.put, List.setIfInBounds_toArray, List.set_cons_zero, List.set_cons_succ]
  refine wpAnyU_two (i := 1) (k := 3) (by rfl) (by rfl) (by kernel_rfl) ?_ ?_
  · intro w1 hq
    have ok1 := HS.out _ _ hdr hq
    have ra' := ra.keep hq
    have ro' := ro.keep hq
    have hbr' := hbr.trans (hq.mono (HSS.out _ hbr))
    clear hbr hq ra ro
    refine wpList_own (by rfl) ?_
    go_wp2_with (go_at_call 96
                 refine (refQuarter_c _).mono ?_
                 rintro e w2 ⟨rfl, rk, hq⟩
                 have Nak : Keep (S < w1.heap.size) := ⟨ra'.lt⟩
                 have Nok : Keep (S + 1 < w1.heap.size) := ⟨ro'.lt⟩
                 have Mk : Keep (S ≤ w1.heap.size) := ⟨HSS.out _ hbr'⟩
                 have ok2 := HS.out _ _ ok1 hq
                 have ra := ra'.keep hq
                 have ro := ro'.keep hq
                 have hbr := hbr'.trans (hq.mono (HSS.out _ hbr'))
                 clear hq hbr' ok1 ra' ro')
    try refine ⟨ok2, ?_⟩
    have HS2 : Keep (∀ x x' : World, (fun x : World => Below S w x ∧ Has x (S) 25 (vals .u64 a) ∧ Has x (w1.heap.size) 23 (vals .u64 qL)) x → Below x.heap.size x x' → (fun x : World => Below S w x ∧ Has x (S) 25 (vals .u64 a) ∧ Has x (w1.heap.size) 23 (vals .u64 qL)) x') := ⟨fun x x' h hb => by
      obtain ⟨hB, ha_, hk_⟩ := h
      exact ⟨hB.trans (hb.mono (HSS.out _ hB)), ha_.keep hb, hk_.keep hb⟩⟩
    refine wpAnyU_weaken (S' := (fun x : World => Below S w x ∧ Has x (S) 25 (vals .u64 a) ∧ Has x (w1.heap.size) 23 (vals .u64 qL))) (fun w h => ⟨h.1, h.2.1⟩) ?_
    have oq2 : (fun x : World => Below S w x ∧ Has x (S) 25 (vals .u64 a) ∧ Has x (w1.heap.size) 23 (vals .u64 qL)) w2 := ⟨hbr, ra, rk⟩
    clear ok2 HS
    refine wpAnyU_take (i := 2) (v := .agg (vals .u64 r)) HS2.out (by rfl) (by kernel_rfl) (by kernel_rfl) (by kernel_rfl) (fun _ _ d _ _ h => by cases d <;> exact h) oq2 (Or.inl ⟨by rfl, fun w hw => (by unfold Oper.quietAt; go_simp; exact P1.out _ _ (Rd.of_has (hw.2.2) (hw.2.2).lt (by rfl) (by decide)))⟩) ?_
    simp only [List.getElem_toArray, List.getElem_cons_zero, List.getElem_cons_succ, Act.put, List.setIfInBounds_toArray, List.set_cons_zero, List.set_cons_succ]
    refine wpAnyU_run (i := 3) (by rfl) (by kernel_rfl) (fun w3 hq => ?_)
    have ok3 := HS2.out _ _ oq2 hq
    have ra' := ra.keep hq
    have ro' := ro.keep hq
    have rk' := rk.keep hq
    have hbr' := hbr.trans (hq.mono (HSS.out _ hbr))
    clear hbr hq ra ro rk
    have Nar : Keep (S < w3.heap.size) := ⟨ra'.lt⟩
    have Nor : Keep (S + 1 < w3.heap.size) := ⟨ro'.lt⟩
    have Nkr : Keep (w1.heap.size < w3.heap.size) := ⟨rk'.lt⟩
    have Mr : Keep (S ≤ w3.heap.size) := ⟨HSS.out _ hbr'⟩
    have hal : Below w3.heap.size w3 (w3.alloc (.cells (vals .u64 Z6) 25)) := (Below.refl _ _).alloc (Nat.le_refl _) _
    have ok4 := HS2.out _ _ ok3 hal
    have ra := ra'.keep hal
    have ro := ro'.keep hal
    have rk := rk'.keep hal
    have rr : Has (w3.alloc (.cells (vals .u64 Z6) 25)) w3.heap.size 25 (vals .u64 Z6) := Has.new _ _ _
    have hbr := hbr'.trans (hal.mono (HSS.out _ hbr'))
    clear hal hbr' ok3 ra' ro' rk'
    refine wpList_own (by rfl) ?_
    go_wp2
    try refine ⟨ok4, ?_⟩
    obtain ⟨gr, hgr⟩ : ∃ g, w3.heap.size = g := ⟨_, rfl⟩
    obtain ⟨w4, hw4⟩ : ∃ x, w3.alloc (.cells (vals .u64 Z6) 25) = x := ⟨_, rfl⟩
    change wpAnyU _ _ _ _ _ _ _ _ (w3.alloc (.cells (vals .u64 Z6) 25))
    rw [hw4] at ok4 hbr ra ro rk rr ⊢
    rw [hgr] at rr Mr Nar Nor Nkr ⊢
    clear hgr hw4
    refine wpAnyU_run (i := 4) (by rfl) (by kernel_rfl) (fun w5 hq => ?_)
    have ok5 := HS2.out _ _ ok4 hq
    have ra' := ra.keep hq
    have ro' := ro.keep hq
    have rk' := rk.keep hq
    have rr' := rr.keep hq
    have hbr' := hbr.trans (hq.mono (HSS.out _ hbr))
    clear hbr hq ra ro rk rr
    refine wpList_own (by rfl) ?_
    go_wp2_with (refine store_abs2 (by rfl) 25 (.tmp 4) (.tmp 7) (by rfl) (by rfl) (gr) (vals .u64 r) (by rfl) (by rfl) 25 _ rr' (by rw [vals_size, Lr.out]; kernel_rfl) (by first | rfl | (rw [vals_size, vals_size, Lr.out]; rfl)) vals_one ?_
                 intro w6 rr hkeep hbg
                 have ra := hkeep _ _ _ ra' (Nat.ne_of_lt Nar.out)
                 have ro := hkeep _ _ _ ro' (Nat.ne_of_lt Nor.out)
                 have rk := hkeep _ _ _ rk' (Nat.ne_of_lt Nkr.out)
                 have hbr := hbr'.trans (hbg.mono Mr.out)
                 clear hkeep hbg hbr' ra' ro' rk' rr')
    try refine ⟨⟨hbr, ra, rk⟩, ?_⟩
    have ok6 : (fun x : World => Below S w x ∧ Has x (S) 25 (vals .u64 a) ∧ Has x (w1.heap.size) 23 (vals .u64 qL)) w6 := ⟨hbr, ra, rk⟩
    clear ok5
    refine wpAnyU_end (by kernel_rfl) (fun w7 hq => ?_)
    have qa7 := ra.keep hq
    have qo7 := ro.keep hq
    have qk7 := rk.keep hq
    have qr7 := rr.keep hq
    have hb7 := hbr.trans (hq.mono (HSS.out _ hbr))
    clear hq hbr ok6 HS2  ra ro rk rr
    go_wp2
    have HS : Keep (∀ x x' : World, (fun x : World => Below S w x ∧ Has x (S) 25 (vals .u64 a) ∧ Has x (gr) 25 (vals .u64 r)) x → Below x.heap.size x x' → (fun x : World => Below S w x ∧ Has x (S) 25 (vals .u64 a) ∧ Has x (gr) 25 (vals .u64 r)) x') := ⟨fun x x' h hb => by
      obtain ⟨hB, ha_, hr_⟩ := h
      exact ⟨hB.trans (hb.mono (HSS.out _ hB)), ha_.keep hb, hr_.keep hb⟩⟩
    have hdr : (fun x : World => Below S w x ∧ Has x (S) 25 (vals .u64 a) ∧ Has x (gr) 25 (vals .u64 r)) w7.drew := HS.out _ _ ⟨hb7, qa7, qr7⟩ ⟨rfl, rfl, rfl, Nat.le_refl _, fun _ _ => rfl⟩
    have hbd : Below w7.heap.size w7 w7.drew := ⟨rfl, rfl, rfl, Nat.le_refl _, fun _ _ => rfl⟩
    refine wp_regionU (S := (fun x : World => Below S w x ∧ Has x (S) 25 (vals .u64 a) ∧ Has x (gr) 25 (vals .u64 r))) (by kernel_rfl) ?_
    change wpAnyU _ _ _ _ _ 9 _ _ _
    have ra := qa7.keep hbd
    have ro := qo7.keep hbd
    have rk := qk7.keep hbd
    have rr := qr7.keep hbd
    have hbr := hb7.trans (hbd.mono (HSS.out _ hb7))
    clear hbd hb7 qa7 qo7 qk7 qr7
    refine wpAnyU_take (i := 0) (v := _) HS.out (by rfl) (by kernel_rfl) (by kernel_rfl) (by kernel_rfl) (fun _ _ d _ _ h => by cases d <;> exact h) hdr (Steady.load_seg (by rfl) 25 (.tmp 4) (by rfl) (gr) 0 6 (by rfl) 25 .u64 r r _ (fun w hw => hw.2.2) Tryd.underlying25 rfl (by kernel_rfl) (by rw [List.drop_zero, take_all Lr.out]) (by rw [Lr.out]; omega)) ?_
    simp only [List.getElem_toArray, List.getElem_cons_zero, List.getElem_cons_succ, Act.put, List.setIfInBounds_toArray, List.set_cons_zero, List.set_cons_succ]
    refine wpAnyU_take (i := 1) (v := _) HS.out (by rfl) (by kernel_rfl) (by kernel_rfl) (by kernel_rfl) (fun _ _ d _ _ h => by cases d <;> exact h) hdr (Steady.load_seg (by rfl) 25 (.tmp 4) (by rfl) (gr) 0 6 (by rfl) 25 .u64 r r _ (fun w hw => hw.2.2) Tryd.underlying25 rfl (by kernel_rfl) (by rw [List.drop_zero, take_all Lr.out]) (by rw [Lr.out]; omega)) ?_
    simp only [List.getElem_toArray, List.getElem_cons_zero, List.getElem_cons_succ, Act.put, List.setIfInBounds_toArray, List.set_cons_zero, List.set_cons_succ]
    refine wpAnyU_take (i := 2) (v := _) HS.out (by rfl) (by kernel_rfl) (by kernel_rfl) (by kernel_rfl) (fun _ _ d _ _ h => by cases d <;> exact h) hdr (Steady.load_seg (by rfl) 25 (.tmp 4) (by rfl) (gr) 0 6 (by rfl) 25 .u64 r r _ (fun w hw => hw.2.2) Tryd.underlying25 rfl (by kernel_rfl) (by rw [List.drop_zero, take_all Lr.out]) (by rw [Lr.out]; omega)) ?_
    simp only [List.getElem_toArray, List.getElem_cons_zero, List.getElem_cons_succ, Act.put, List.setIfInBounds_toArray, List.set_cons_zero, List.set_cons_succ]
    refine wpAnyU_take (i := 3) (v := .agg (vals .u64 m)) HS.out (by rfl) (by kernel_rfl) (by kernel_rfl) (by kernel_rfl) (fun _ _ d _ _ h => by cases d <;> exact h) hdr (Or.inl ⟨by rfl, fun w hw => (by unfold Oper.quietAt; go_simp; exact P2.out _)⟩) ?_
    simp only [List.getElem_toArray, List.getElem_cons_zero, List.getElem_cons_succ, Act.put, List.setIfInBounds_toArray, List.set_cons_zero, List.set_cons_succ]
    refine wpAnyU_take (i := 4) (v := _) HS.out (by rfl) (by kernel_rfl) (by kernel_rfl) (by kernel_rfl) (fun _ _ d _ _ h => by cases d <;> exact h) hdr (Steady.load_seg (by rfl) 25 (.tmp 1) (by rfl) (S) 0 6 (by rfl) 25 .u64 a a _ (fun w hw => hw.2.1) Tryd.underlying25 rfl (by kernel_rfl) (by rw [List.drop_zero, take_all La.out]) (by rw [La.out]; omega)) ?_
    simp only [List.getElem_toArray, List.getElem_cons_zero, List.getElem_cons_succ, Act.put, List.setIfInBounds_toArray, List.set_cons_zero, List.set_cons_succ]
    refine wpAnyU_take (i := 5) (v := .agg (vals .u64 x)) HS.out (by rfl) (by kernel_rfl) (by kernel_rfl) (by kernel_rfl) (fun _ _ d _ _ h => by cases d <;> exact h) hdr (Or.inl ⟨by rfl, fun w hw => (by unfold Oper.quietAt; go_simp; exact P3.out _)⟩) ?_
    simp only [List.getElem_toArray, List.getElem_cons_zero, List.getElem_cons_succ, Act.put, List.setIfInBounds_toArray, List.set_cons_zero, List.set_cons_succ]
    refine wpAnyU_take (i := 6) (v := .bool s) HS.out (by rfl) (by kernel_rfl) (by kernel_rfl) (by kernel_rfl) (fun _ _ d _ _ h => by cases d <;> exact h) hdr (Steady.of_yields (Or.inl ⟨by rfl, fun w => (by go_simp)⟩)) ?_
    simp only [List.getElem_toArray, List.getElem_cons_zero, List.getElem_cons_succ, Act.put, List.setIfInBounds_toArray, List.set_cons_zero, List.set_cons_succ]
    refine wpAnyU_run (i := 7) (by rfl) (by kernel_rfl) (fun w8 hq => ?_)
    have ok8 := HS.out _ _ hdr hq
    have ra' := ra.keep hq
    have ro' := ro.keep hq
    have rk' := rk.keep hq
    have rr' := rr.keep hq
    have hbr' := hbr.trans (hq.mono (HSS.out _ hbr))
    clear hbr hq ra ro rk rr
    refine wpList_own (by rfl) ?_
    go_wp2_with (refine store_abs2 (by rfl) 25 (.tmp 2) (.tmp 8) (by rfl) (by rfl) (S + 1) (vals .u64 r) (by rfl) (by rfl) 25 _ ro' (by rw [vals_size, Lr.out]; kernel_rfl) (by first | rfl | (rw [vals_size, vals_size, Lr.out]; rfl)) vals_one ?_
                 intro w9 ro hkeep hbg
                 have ra := hkeep _ _ _ ra' (by omega)
                 have rk := hkeep _ _ _ rk' (Nat.ne_of_gt Nok.out)
                 have rr := hkeep _ _ _ rr' (Nat.ne_of_gt Nor.out)
                 have hbr := hbr'.trans (hbg.mono (by omega))
                 clear hkeep hbg hbr' ra' ro' rk' rr')
    try refine ⟨⟨hbr, ra, rr⟩, ?_⟩
    have ok9 : (fun x : World => Below S w x ∧ Has x (S) 25 (vals .u64 a) ∧ Has x (gr) 25 (vals .u64 r)) w9 := ⟨hbr, ra, rr⟩
    clear ok8
    refine wpAnyU_take (i := 8) (v := _) HS.out (by rfl) (by kernel_rfl) (by kernel_rfl) (by kernel_rfl) (fun _ _ d _ _ h => by cases d <;> exact h) ok9 (Steady.of_yields (Or.inl ⟨by rfl, fun w => (by first | (go_simp; done) | (go_simp; with_reducible rfl))⟩)) ?_
    simp only [List.getElem_toArray, List.getElem_cons_zero, List.getElem_cons_succ, Act.put, List.setIfInBounds_toArray, List.set_cons_zero, List.set_cons_succ]
    refine wpAnyU_end (by kernel_rfl) (fun w10 hq => ?_)
    have qa10 := ra.keep hq
    have qo10 := ro.keep hq
    have qk10 := rk.keep hq
    have qr10 := rr.keep hq
    have hb10 := hbr.trans (hq.mono (HSS.out _ hbr))
    clear hq hbr ok9 HS  ra ro rk rr
    go_wp2
    refine bodyPost_ret (v := .tuple #[.agg (vals .u64 r), .bool s]) (results_row_tmp rfl _ _ (S + 1) _ _ _ _ _ rfl rfl qo10.eq Tryd.underlying25 rfl (by rw [vals_size, Lr.out]; kernel_rfl)) rfl ⟨rfl, hb10⟩
  · intro w1 hq
    have ok1 := HS.out _ _ hdr hq
    have ra' := ra.keep hq
    have ro' := ro.keep hq
    have hbr' := hbr.trans (hq.mono (HSS.out _ hbr))
    clear hbr hq ra ro
    have Nar : Keep (S < w1.heap.size) := ⟨ra'.lt⟩
    have Nor : Keep (S + 1 < w1.heap.size) := ⟨ro'.lt⟩
    have Mr : Keep (S ≤ w1.heap.size) := ⟨HSS.out _ hbr'⟩
    have hal : Below w1.heap.size w1 (w1.alloc (.cells (vals .u64 Z6) 25)) := (Below.refl _ _).alloc (Nat.le_refl _) _
    have ok2 := HS.out _ _ ok1 hal
    have ra := ra'.keep hal
    have ro := ro'.keep hal
    have rr : Has (w1.alloc (.cells (vals .u64 Z6) 25)) w1.heap.size 25 (vals .u64 Z6) := Has.new _ _ _
    have hbr := hbr'.trans (hal.mono (HSS.out _ hbr'))
    clear hal hbr' ok1 ra' ro'
    refine wpList_own (by rfl) ?_
    go_wp2
    try refine ⟨ok2, ?_⟩
    obtain ⟨gr, hgr⟩ : ∃ g, w1.heap.size = g := ⟨_, rfl⟩
    obtain ⟨w2, hw2⟩ : ∃ x, w1.alloc (.cells (vals .u64 Z6) 25) = x := ⟨_, rfl⟩
    change wpAnyU _ _ _ _ _ _ _ _ (w1.alloc (.cells (vals .u64 Z6) 25))
    rw [hw2] at ok2 hbr ra ro rr ⊢
    rw [hgr] at rr Mr Nar Nor ⊢
    clear hgr hw2
    refine wpAnyU_run (i := 1) (by rfl) (by kernel_rfl) (fun w3 hq => ?_)
    have ok3 := HS.out _ _ ok2 hq
    have ra' := ra.keep hq
    have ro' := ro.keep hq
    have rr' := rr.keep hq
    have hbr' := hbr.trans (hq.mono (HSS.out _ hbr))
    clear hbr hq ra ro rr
    refine wpList_own (by rfl) ?_
    go_wp2_with (go_at_call 96
                 refine (refQuarter_c _).mono ?_
                 rintro e w4 ⟨rfl, rk, hq⟩
                 have Nak : Keep (S < w3.heap.size) := ⟨ra'.lt⟩
                 have Nok : Keep (S + 1 < w3.heap.size) := ⟨ro'.lt⟩
                 have Nrk : Keep (gr < w3.heap.size) := ⟨rr'.lt⟩
                 have Mk : Keep (S ≤ w3.heap.size) := ⟨HSS.out _ hbr'⟩
                 have ok4 := HS.out _ _ ok3 hq
                 have ra := ra'.keep hq
                 have ro := ro'.keep hq
                 have rr := rr'.keep hq
                 have hbr := hbr'.trans (hq.mono (HSS.out _ hbr'))
                 clear hq hbr' ok3 ra' ro' rr')
    try refine ⟨ok4, ?_⟩
    have HS4 : Keep (∀ x x' : World, (fun x : World => Below S w x ∧ Has x (S) 25 (vals .u64 a) ∧ Has x (w3.heap.size) 23 (vals .u64 qL)) x → Below x.heap.size x x' → (fun x : World => Below S w x ∧ Has x (S) 25 (vals .u64 a) ∧ Has x (w3.heap.size) 23 (vals .u64 qL)) x') := ⟨fun x x' h hb => by
      obtain ⟨hB, ha_, hk_⟩ := h
      exact ⟨hB.trans (hb.mono (HSS.out _ hB)), ha_.keep hb, hk_.keep hb⟩⟩
    refine wpAnyU_weaken (S' := (fun x : World => Below S w x ∧ Has x (S) 25 (vals .u64 a) ∧ Has x (w3.heap.size) 23 (vals .u64 qL))) (fun w h => ⟨h.1, h.2.1⟩) ?_
    have oq4 : (fun x : World => Below S w x ∧ Has x (S) 25 (vals .u64 a) ∧ Has x (w3.heap.size) 23 (vals .u64 qL)) w4 := ⟨hbr, ra, rk⟩
    clear ok4 HS
    refine wpAnyU_take (i := 2) (v := .agg (vals .u64 r)) HS4.out (by rfl) (by kernel_rfl) (by kernel_rfl) (by kernel_rfl) (fun _ _ d _ _ h => by cases d <;> exact h) oq4 (Or.inl ⟨by rfl, fun w hw => (by unfold Oper.quietAt; go_simp; exact P1.out _ _ (Rd.of_has (hw.2.2) (hw.2.2).lt (by rfl) (by decide)))⟩) ?_
    simp only [List.getElem_toArray, List.getElem_cons_zero, List.getElem_cons_succ, Act.put, List.setIfInBounds_toArray, List.set_cons_zero, List.set_cons_succ]
    refine wpAnyU_run (i := 4) (by rfl) (by kernel_rfl) (fun w5 hq => ?_)
    have ok5 := HS4.out _ _ oq4 hq
    have ra' := ra.keep hq
    have ro' := ro.keep hq
    have rr' := rr.keep hq
    have rk' := rk.keep hq
    have hbr' := hbr.trans (hq.mono (HSS.out _ hbr))
    clear hbr hq ra ro rr rk
    refine wpList_own (by rfl) ?_
    go_wp2_with (refine store_abs2 (by rfl) 25 (.tmp 4) (.tmp 7) (by rfl) (by rfl) (gr) (vals .u64 r) (by rfl) (by rfl) 25 _ rr' (by rw [vals_size, Lr.out]; kernel_rfl) (by first | rfl | (rw [vals_size, vals_size, Lr.out]; rfl)) vals_one ?_
                 intro w6 rr hkeep hbg
                 have ra := hkeep _ _ _ ra' (Nat.ne_of_lt Nar.out)
                 have ro := hkeep _ _ _ ro' (Nat.ne_of_lt Nor.out)
                 have rk := hkeep _ _ _ rk' (Nat.ne_of_gt Nrk.out)
                 have hbr := hbr'.trans (hbg.mono Mr.out)
                 clear hkeep hbg hbr' ra' ro' rr' rk')
    try refine ⟨⟨hbr, ra, rk⟩, ?_⟩
    have ok6 : (fun x : World => Below S w x ∧ Has x (S) 25 (vals .u64 a) ∧ Has x (w3.heap.size) 23 (vals .u64 qL)) w6 := ⟨hbr, ra, rk⟩
    clear ok5
    refine wpAnyU_end (by kernel_rfl) (fun w7 hq => ?_)
    have qa7 := ra.keep hq
    have qo7 := ro.keep hq
    have qr7 := rr.keep hq
    have qk7 := rk.keep hq
    have hb7 := hbr.trans (hq.mono (HSS.out _ hbr))
    clear hq hbr ok6 HS4  ra ro rr rk
    go_wp2
    have HS : Keep (∀ x x' : World, (fun x : World => Below S w x ∧ Has x (S) 25 (vals .u64 a) ∧ Has x (gr) 25 (vals .u64 r)) x → Below x.heap.size x x' → (fun x : World => Below S w x ∧ Has x (S) 25 (vals .u64 a) ∧ Has x (gr) 25 (vals .u64 r)) x') := ⟨fun x x' h hb => by
      obtain ⟨hB, ha_, hr_⟩ := h
      exact ⟨hB.trans (hb.mono (HSS.out _ hB)), ha_.keep hb, hr_.keep hb⟩⟩
    have hdr : (fun x : World => Below S w x ∧ Has x (S) 25 (vals .u64 a) ∧ Has x (gr) 25 (vals .u64 r)) w7.drew := HS.out _ _ ⟨hb7, qa7, qr7⟩ ⟨rfl, rfl, rfl, Nat.le_refl _, fun _ _ => rfl⟩
    have hbd : Below w7.heap.size w7 w7.drew := ⟨rfl, rfl, rfl, Nat.le_refl _, fun _ _ => rfl⟩
    refine wp_regionU (S := (fun x : World => Below S w x ∧ Has x (S) 25 (vals .u64 a) ∧ Has x (gr) 25 (vals .u64 r))) (by kernel_rfl) ?_
    change wpAnyU _ _ _ _ _ 9 _ _ _
    have ra := qa7.keep hbd
    have ro := qo7.keep hbd
    have rr := qr7.keep hbd
    have rk := qk7.keep hbd
    have hbr := hb7.trans (hbd.mono (HSS.out _ hb7))
    clear hbd hb7 qa7 qo7 qr7 qk7
    refine wpAnyU_take (i := 0) (v := _) HS.out (by rfl) (by kernel_rfl) (by kernel_rfl) (by kernel_rfl) (fun _ _ d _ _ h => by cases d <;> exact h) hdr (Steady.load_seg (by rfl) 25 (.tmp 4) (by rfl) (gr) 0 6 (by rfl) 25 .u64 r r _ (fun w hw => hw.2.2) Tryd.underlying25 rfl (by kernel_rfl) (by rw [List.drop_zero, take_all Lr.out]) (by rw [Lr.out]; omega)) ?_
    simp only [List.getElem_toArray, List.getElem_cons_zero, List.getElem_cons_succ, Act.put, List.setIfInBounds_toArray, List.set_cons_zero, List.set_cons_succ]
    refine wpAnyU_take (i := 1) (v := _) HS.out (by rfl) (by kernel_rfl) (by kernel_rfl) (by kernel_rfl) (fun _ _ d _ _ h => by cases d <;> exact h) hdr (Steady.load_seg (by rfl) 25 (.tmp 4) (by rfl) (gr) 0 6 (by rfl) 25 .u64 r r _ (fun w hw => hw.2.2) Tryd.underlying25 rfl (by kernel_rfl) (by rw [List.drop_zero, take_all Lr.out]) (by rw [Lr.out]; omega)) ?_
    simp only [List.getElem_toArray, List.getElem_cons_zero, List.getElem_cons_succ, Act.put, List.setIfInBounds_toArray, List.set_cons_zero, List.set_cons_succ]
    refine wpAnyU_take (i := 2) (v := _) HS.out (by rfl) (by kernel_rfl) (by kernel_rfl) (by kernel_rfl) (fun _ _ d _ _ h => by cases d <;> exact h) hdr (Steady.load_seg (by rfl) 25 (.tmp 4) (by rfl) (gr) 0 6 (by rfl) 25 .u64 r r _ (fun w hw => hw.2.2) Tryd.underlying25 rfl (by kernel_rfl) (by rw [List.drop_zero, take_all Lr.out]) (by rw [Lr.out]; omega)) ?_
    simp only [List.getElem_toArray, List.getElem_cons_zero, List.getElem_cons_succ, Act.put, List.setIfInBounds_toArray, List.set_cons_zero, List.set_cons_succ]
    refine wpAnyU_take (i := 3) (v := .agg (vals .u64 m)) HS.out (by rfl) (by kernel_rfl) (by kernel_rfl) (by kernel_rfl) (fun _ _ d _ _ h => by cases d <;> exact h) hdr (Or.inl ⟨by rfl, fun w hw => (by unfold Oper.quietAt; go_simp; exact P2.out _)⟩) ?_
    simp only [List.getElem_toArray, List.getElem_cons_zero, List.getElem_cons_succ, Act.put, List.setIfInBounds_toArray, List.set_cons_zero, List.set_cons_succ]
    refine wpAnyU_take (i := 4) (v := _) HS.out (by rfl) (by kernel_rfl) (by kernel_rfl) (by kernel_rfl) (fun _ _ d _ _ h => by cases d <;> exact h) hdr (Steady.load_seg (by rfl) 25 (.tmp 1) (by rfl) (S) 0 6 (by rfl) 25 .u64 a a _ (fun w hw => hw.2.1) Tryd.underlying25 rfl (by kernel_rfl) (by rw [List.drop_zero, take_all La.out]) (by rw [La.out]; omega)) ?_
    simp only [List.getElem_toArray, List.getElem_cons_zero, List.getElem_cons_succ, Act.put, List.setIfInBounds_toArray, List.set_cons_zero, List.set_cons_succ]
    refine wpAnyU_take (i := 5) (v := .agg (vals .u64 x)) HS.out (by rfl) (by kernel_rfl) (by kernel_rfl) (by kernel_rfl) (fun _ _ d _ _ h => by cases d <;> exact h) hdr (Or.inl ⟨by rfl, fun w hw => (by unfold Oper.quietAt; go_simp; exact P3.out _)⟩) ?_
    simp only [List.getElem_toArray, List.getElem_cons_zero, List.getElem_cons_succ, Act.put, List.setIfInBounds_toArray, List.set_cons_zero, List.set_cons_succ]
    refine wpAnyU_take (i := 6) (v := .bool s) HS.out (by rfl) (by kernel_rfl) (by kernel_rfl) (by kernel_rfl) (fun _ _ d _ _ h => by cases d <;> exact h) hdr (Steady.of_yields (Or.inl ⟨by rfl, fun w => (by go_simp)⟩)) ?_
    simp only [List.getElem_toArray, List.getElem_cons_zero, List.getElem_cons_succ, Act.put, List.setIfInBounds_toArray, List.set_cons_zero, List.set_cons_succ]
    refine wpAnyU_run (i := 7) (by rfl) (by kernel_rfl) (fun w8 hq => ?_)
    have ok8 := HS.out _ _ hdr hq
    have ra' := ra.keep hq
    have ro' := ro.keep hq
    have rr' := rr.keep hq
    have rk' := rk.keep hq
    have hbr' := hbr.trans (hq.mono (HSS.out _ hbr))
    clear hbr hq ra ro rr rk
    refine wpList_own (by rfl) ?_
    go_wp2_with (refine store_abs2 (by rfl) 25 (.tmp 2) (.tmp 8) (by rfl) (by rfl) (S + 1) (vals .u64 r) (by rfl) (by rfl) 25 _ ro' (by rw [vals_size, Lr.out]; kernel_rfl) (by first | rfl | (rw [vals_size, vals_size, Lr.out]; rfl)) vals_one ?_
                 intro w9 ro hkeep hbg
                 have ra := hkeep _ _ _ ra' (by omega)
                 have rr := hkeep _ _ _ rr' (Nat.ne_of_gt Nor.out)
                 have rk := hkeep _ _ _ rk' (Nat.ne_of_gt Nok.out)
                 have hbr := hbr'.trans (hbg.mono (by omega))
                 clear hkeep hbg hbr' ra' ro' rr' rk')
    try refine ⟨⟨hbr, ra, rr⟩, ?_⟩
    have ok9 : (fun x : World => Below S w x ∧ Has x (S) 25 (vals .u64 a) ∧ Has x (gr) 25 (vals .u64 r)) w9 := ⟨hbr, ra, rr⟩
    clear ok8
    refine wpAnyU_take (i := 8) (v := _) HS.out (by rfl) (by kernel_rfl) (by kernel_rfl) (by kernel_rfl) (fun _ _ d _ _ h => by cases d <;> exact h) ok9 (Steady.of_yields (Or.inl ⟨by rfl, fun w => (by first | (go_simp; done) | (go_simp; with_reducible rfl))⟩)) ?_
    simp only [List.getElem_toArray, List.getElem_cons_zero, List.getElem_cons_succ, Act.put, List.setIfInBounds_toArray, List.set_cons_zero, List.set_cons_succ]
    refine wpAnyU_end (by kernel_rfl) (fun w10 hq => ?_)
    have qa10 := ra.keep hq
    have qo10 := ro.keep hq
    have qr10 := rr.keep hq
    have qk10 := rk.keep hq
    have hb10 := hbr.trans (hq.mono (HSS.out _ hbr))
    clear hq hbr ok9 HS  ra ro rr rk
    go_wp2
    refine bodyPost_ret (v := .tuple #[.agg (vals .u64 r), .bool s]) (results_row_tmp rfl _ _ (S + 1) _ _ _ _ _ rfl rfl qo10.eq Tryd.underlying25 rfl (by rw [vals_size, Lr.out]; kernel_rfl)) rfl ⟨rfl, hb10⟩

set_option maxRecDepth 100000 in
set_option maxHeartbeats 2000000 in
theorem refIs_c (a : List Int) (hla : a.length = 6) (hwa : Words a) (w : World) : Calls Tryd.prog 47 #[.agg (vals .u64 a)] w fun e w' => e = .returned (.bool (sq (num a))) ∧ Below w.heap.size w w' := by
  have P1 : Keep (∀ x : World, _) := ⟨fun x => refRoot_c a hla hwa x⟩
  obtain ⟨r, hr⟩ : ∃ o, fe (pw (num a) QQ) = o := ⟨_, rfl⟩
  have Lr : Keep (r.length = 6) := ⟨by rw [← hr]; exact fe_len _⟩
  obtain ⟨s, hs⟩ : ∃ s, sq (num a) = s := ⟨_, rfl⟩
  rw [hr, hs] at P1
  rw [hs]
  have La : Keep (a.length = 6) := ⟨hla⟩
  have Lo : Keep (Z6.length = 6) := ⟨rfl⟩
  obtain ⟨S, hS⟩ : ∃ S, w.heap.size = S := ⟨_, rfl⟩
  have qa0 : Has (w.alloc (.cells (vals .u64 a) 25)) (S) 25 (vals .u64 a) := by exact (Has.new' _ hS.symm _ _)
  have hb0 : Below S w (w.alloc (.cells (vals .u64 a) 25)) := by rw [← hS]; exact ((Below.refl _ _).alloc (Nat.le_refl _) _)
  have hsz0 : (w.alloc (.cells (vals .u64 a) 25)).heap.size = S + 1 := by simp only [World.size_alloc, hS]
  have HS0 : Keep (S ≤ w.heap.size) := ⟨by omega⟩
  have HSS : Keep (∀ x : World, Below S w x → S ≤ x.heap.size) := ⟨fun x hb => Nat.le_trans HS0.out hb.size⟩
  rw [hS]
  clear hr hs hla hwa
  go_enter Tryd.func47, Tryd.ntmps47
  go_wp2_with (first
    | (refine store_abs2 (by rfl) 25 (.tmp 3) (.tmp 8) (by rfl) (by rfl) (w1.heap.size) (vals .u64 r) (by rfl) (by rfl) 25 (vals .u64 Z6) (Has.new' _ rfl _ _) (by rw [vals_size, Lr.out]; kernel_rfl) (by first | rfl | (rw [vals_size, vals_size, Lr.out]; rfl)) vals_one ?_
       intro w2 qr2 hkeep hbg
       have hbe := ((Below.refl (w1).heap.size (w1)).alloc (Nat.le_refl _) (.cells (vals .u64 Z6) 25)).trans hbg
       have Nar : Keep (S < w1.heap.size) := ⟨qa1.lt⟩
       have Mr : Keep (S ≤ w1.heap.size) := ⟨HSS.out _ hb1⟩
       have qa2 := qa1.keep hbe
       have hb2 := hb1.trans (hbe.mono (HSS.out _ hb1))
       clear hkeep hbg hbe hb1 qa1)
    | (go_at_call 78
       refine (P1.out _).mono ?_
       rintro e w1 ⟨rfl, hq⟩
       have qa1 := qa0.keep hq
       have hb1 := hb0.trans (hq.mono (HSS.out _ hb0))
       clear hq hb0 qa0)
    | (refine wpList_load_row rfl 25 (.tmp 1) rfl (S) rfl _ _ _ _ qa0.eq Tryd.underlying25 rfl (by rw [vals_size, La.out]; kernel_rfl) ?_))
  go_ret
  exact ⟨rfl, hb2⟩

set_option maxRecDepth 100000 in
set_option maxHeartbeats 2000000 in
theorem refSign_c (a : List Int) (hla : a.length = 6) (hwa : Words a) (w : World) : Calls Tryd.prog 49 #[.agg (vals .u64 a)] w fun e w' => e = .returned (.int .i64 (sgn (num a))) ∧ Below w.heap.size w w' := by
  have P1 : Keep (∀ x : World, _) := ⟨fun x => refReduce_c a hla hwa x⟩
  obtain ⟨r, hr⟩ : ∃ o, fe (num a) = o := ⟨_, rfl⟩
  have Lr : Keep (r.length = 6) := ⟨by rw [← hr]; exact fe_len _⟩
  obtain ⟨s, hs⟩ : ∃ s, sgn (num a) = s := ⟨_, rfl⟩
  have hz : nth r 0 % 2 = s := by rw [← hr, ← hs]; exact sgn_nth _
  have hw0 : 0 ≤ nth r 0 ∧ nth r 0 ≤ 18446744073709551615 := by rw [← hr]; exact fe_words _ 0
  have h01 : 0 ≤ s ∧ s ≤ 1 := by have := sgn_or (num a); omega
  rw [hr] at P1
  rw [hs]
  obtain ⟨x0, hx0⟩ : ∃ x, nth r 0 = x := ⟨_, rfl⟩
  rw [hx0] at hz hw0
  have La : Keep (a.length = 6) := ⟨hla⟩
  have Lo : Keep (Z6.length = 6) := ⟨rfl⟩
  obtain ⟨S, hS⟩ : ∃ S, w.heap.size = S := ⟨_, rfl⟩
  have qa0 : Has (w.alloc (.cells (vals .u64 a) 25)) (S) 25 (vals .u64 a) := by exact (Has.new' _ hS.symm _ _)
  have hb0 : Below S w (w.alloc (.cells (vals .u64 a) 25)) := by rw [← hS]; exact ((Below.refl _ _).alloc (Nat.le_refl _) _)
  have hsz0 : (w.alloc (.cells (vals .u64 a) 25)).heap.size = S + 1 := by simp only [World.size_alloc, hS]
  have HS0 : Keep (S ≤ w.heap.size) := ⟨by omega⟩
  have HSS : Keep (∀ x : World, Below S w x → S ≤ x.heap.size) := ⟨fun x hb => Nat.le_trans HS0.out hb.size⟩
  rw [hS]
  clear hr hs hla hwa
  go_enter Tryd.func49, Tryd.ntmps49
  go_wp2_with (first
    | (refine store_abs2 (by rfl) 25 (.tmp 3) (.tmp 5) (by rfl) (by rfl) (w1.heap.size) (vals .u64 r) (by rfl) (by rfl) 25 (vals .u64 Z6) (Has.new' _ rfl _ _) (by rw [vals_size, Lr.out]; kernel_rfl) (by first | rfl | (rw [vals_size, vals_size, Lr.out]; rfl)) vals_one ?_
       intro w2 qr2 hkeep hbg
       have hbe := ((Below.refl (w1).heap.size (w1)).alloc (Nat.le_refl _) (.cells (vals .u64 Z6) 25)).trans hbg
       have Nar : Keep (S < w1.heap.size) := ⟨qa1.lt⟩
       have Mr : Keep (S ≤ w1.heap.size) := ⟨HSS.out _ hb1⟩
       have qa2 := qa1.keep hbe
       have hb2 := hb1.trans (hbe.mono (HSS.out _ hb1))
       have c0 := qr2.val (i := 0) (by rw [Lr.out]; decide)
       rw [hx0] at c0
       clear hkeep hbg hbe hb1 qa1)
    | (go_at_call 22
       refine (P1.out _).mono ?_
       rintro e w1 ⟨rfl, hq⟩
       have qa1 := qa0.keep hq
       have hb1 := hb0.trans (hq.mono (HSS.out _ hb0))
       clear hq hb0 qa0)
    | (refine wpList_load_row rfl 25 (.tmp 1) rfl (S) rfl _ _ _ _ qa0.eq Tryd.underlying25 rfl (by rw [vals_size, La.out]; kernel_rfl) ?_))
  go_ret
  exact ⟨rfl, hb2⟩

end Go.Proofs.YtpkfknmpegieaaaDoor.Fpr
