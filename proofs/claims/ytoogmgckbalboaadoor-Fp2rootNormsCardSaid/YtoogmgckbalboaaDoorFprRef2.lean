/-
  Own text. The contracts of layer 5's reference: Sqrt, Bigger.
-/
import Derived.Test.YtoogmgckbalboaaDoorFprRef
namespace Go.Proofs.YtoogmgckbalboaaDoor.Fpr
set_option linter.unusedVariables false
set_option linter.unusedSimpArgs false
open Go Go.RowKit Go.Proofs.YtoogmgckbalboaaDoor.Reg Go.Proofs.YtoogmgckbalboaaDoor.Base Go.Proofs.YtoogmgckbalboaaDoor.Limb Go.Proofs.YtoogmgckbalboaaDoor.Bits Go.Proofs.YtoogmgckbalboaaDoor.Fp

set_option maxRecDepth 100000 in
set_option maxHeartbeats 2000000 in
theorem refBigger_c (a : List Int) (hla : a.length = 6) (hwa : Words a) (w : World) : Calls Tryd.prog 40 #[.agg (vals .u64 a)] w fun e w' => e = .returned (.bool (big (num a))) ∧ Below w.heap.size w w' := by
  have P1 : Keep (∀ x : World, _) := ⟨fun x => refReduce_c a hla hwa x⟩
  have P2 : Keep (∀ x : World, _) := ⟨fun x => refNeg_c a hla hwa x⟩
  obtain ⟨z, hz, hzb⟩ := cmp_big (num a)
  have wr : Words (fe (num a)) := fe_words _
  have wn : Words (fe (-num a)) := fe_words _
  obtain ⟨r, hr⟩ : ∃ o, fe (num a) = o := ⟨_, rfl⟩
  have Lr : Keep (r.length = 6) := ⟨by rw [← hr]; exact fe_len _⟩
  obtain ⟨n, hn⟩ : ∃ o, fe (-num a) = o := ⟨_, rfl⟩
  have Ln : Keep (n.length = 6) := ⟨by rw [← hn]; exact fe_len _⟩
  rw [hr, hn] at hz
  rw [hr] at P1 wr
  rw [hn] at P2 wn
  obtain ⟨s, hs⟩ : ∃ s, big (num a) = s := ⟨_, rfl⟩
  rw [hs] at hzb ⊢
  have P3 : Keep (∀ (x : World) (g g' : Nat), Has x g 24 (vals .u64 r) → Has x g' 24 (vals .u64 n) → Calls Tryd.prog 71 #[.slice (some ⟨g, 0, none⟩) 6 6, .slice (some ⟨g', 0, none⟩) 6 6] x fun e x' => e = .returned (.int .i64 z) ∧ Below x.heap.size x x') := ⟨fun x g g' h h' => by
    have h1 := refCmp_c (some ⟨g, 0, none⟩) 6 6 r (some ⟨g', 0, none⟩) 6 6 n x.heap.size x (Rd.of_has h h.lt (by rw [List.drop_zero, take_all Lr.out]) (by rw [Lr.out]; omega)) wr (Rd.of_has h' h'.lt (by rw [List.drop_zero, take_all Ln.out]) (by rw [Ln.out]; omega)) wn (by omega) (by omega)
    rw [hz] at h1
    exact h1.mono fun e x' ⟨he, hx⟩ => ⟨he, hx ▸ Below.refl _ _⟩⟩
  have HZ : Keep (decide (0 < z) = s) := ⟨hzb⟩
  have La : Keep (a.length = 6) := ⟨hla⟩
  have Lo : Keep (Z6.length = 6) := ⟨rfl⟩
  obtain ⟨S, hS⟩ : ∃ S, w.heap.size = S := ⟨_, rfl⟩
  have qa0 : Has (w.alloc (.cells (vals .u64 a) 24)) (S) 24 (vals .u64 a) := by exact (Has.new' _ hS.symm _ _)
  have hb0 : Below S w (w.alloc (.cells (vals .u64 a) 24)) := by rw [← hS]; exact ((Below.refl _ _).alloc (Nat.le_refl _) _)
  have hsz0 : (w.alloc (.cells (vals .u64 a) 24)).heap.size = S + 1 := by simp only [World.size_alloc, hS]
  have HS0 : Keep (S ≤ w.heap.size) := ⟨by omega⟩
  have HSS : Keep (∀ x : World, Below S w x → S ≤ x.heap.size) := ⟨fun x hb => Nat.le_trans HS0.out hb.size⟩
  rw [hS]
  clear hz hzb hr hn hs wr wn hla hwa
  go_enter Tryd.func40, Tryd.ntmps40
  go_wp2_with (first
    | (refine store_abs2 (by rfl) 24 (.tmp 4) (.tmp 8) (by rfl) (by rfl) (w3.heap.size) (vals .u64 n) (by rfl) (by rfl) 24 (vals .u64 Z6) (Has.new' _ rfl _ _) (by rw [vals_size, Ln.out]; kernel_rfl) (by first | rfl | (rw [vals_size, vals_size, Ln.out]; rfl)) vals_one ?_
       intro w4 qn4 hkeep hbg
       have hbe := ((Below.refl (w3).heap.size (w3)).alloc (Nat.le_refl _) (.cells (vals .u64 Z6) 24)).trans hbg
       have Nan : Keep (S < w3.heap.size) := ⟨qa3.lt⟩
       have Nrn : Keep (w1.heap.size < w3.heap.size) := ⟨qr3.lt⟩
       have Mn : Keep (S ≤ w3.heap.size) := ⟨HSS.out _ hb3⟩
       have qa4 := qa3.keep hbe
       have qr4 := qr3.keep hbe
       have hb4 := hb3.trans (hbe.mono (HSS.out _ hb3))
       clear hkeep hbg hbe hb3 qa3 qr3)
    | (go_at_call 66
       refine (P2.out _).mono ?_
       rintro e w3 ⟨rfl, hq⟩
       have qa3 := qa2.keep hq
       have qr3 := qr2.keep hq
       have hb3 := hb2.trans (hq.mono (HSS.out _ hb2))
       clear hq hb2 qa2 qr2)
    | (refine wpList_load_row rfl 24 (.tmp 1) rfl (S) rfl _ _ _ _ qa2.eq Tryd.underlying24 rfl (by rw [vals_size, La.out]; kernel_rfl) ?_)
    | (refine store_abs2 (by rfl) 24 (.tmp 3) (.tmp 6) (by rfl) (by rfl) (w1.heap.size) (vals .u64 r) (by rfl) (by rfl) 24 (vals .u64 Z6) (Has.new' _ rfl _ _) (by rw [vals_size, Lr.out]; kernel_rfl) (by first | rfl | (rw [vals_size, vals_size, Lr.out]; rfl)) vals_one ?_
       intro w2 qr2 hkeep hbg
       have hbe := ((Below.refl (w1).heap.size (w1)).alloc (Nat.le_refl _) (.cells (vals .u64 Z6) 24)).trans hbg
       have Nar : Keep (S < w1.heap.size) := ⟨qa1.lt⟩
       have Mr : Keep (S ≤ w1.heap.size) := ⟨HSS.out _ hb1⟩
       have qa2 := qa1.keep hbe
       have hb2 := hb1.trans (hbe.mono (HSS.out _ hb1))
       clear hkeep hbg hbe hb1 qa1)
    | (go_at_call 37
       refine (P1.out _).mono ?_
       rintro e w1 ⟨rfl, hq⟩
       have qa1 := qa0.keep hq
       have hb1 := hb0.trans (hq.mono (HSS.out _ hb0))
       clear hq hb0 qa0)
    | (refine wpList_load_row rfl 24 (.tmp 1) rfl (S) rfl _ _ _ _ qa0.eq Tryd.underlying24 rfl (by rw [vals_size, La.out]; kernel_rfl) ?_))
  refine wp_fam_all (by kernel_rfl) (by kernel_rfl) (fun I hI' fw hf hback => ?_)
  repeat (first
    | go_big_quiet_step (first | fail | (go_at_call 71; with_reducible exact calls_fam hf hback (P3.out _ _ _ (qr4.keep (hf _)) (qn4.keep (hf _))))))
  refine wpQuiet_nil ?_
  intro w5 hq
  have qa5 := qa4.keep hq
  have qr5 := qr4.keep hq
  have qn5 := qn4.keep hq
  have hb5 := hb4.trans (hq.mono (HSS.out _ hb4))
  clear hf hback hq hb4 qa4 qr4 qn4 
  go_wp2
  go_ret
  exact ⟨by rw [← HZ.out]; rfl, hb5⟩

end Go.Proofs.YtoogmgckbalboaaDoor.Fpr
