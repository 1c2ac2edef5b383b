/-
  Own text. The contracts of layer 5's reference: quarter, root, Is, Sign.
-/
import Derived.Test.YtoogmgckbalboaaDoorMFpr
import Derived.Test.YtoogmgckbalboaaDoorMFpR
import Derived.Test.YtoogmgckbalboaaDoorFpW1
import Derived.Test.YtoogmgckbalboaaDoorMReg
namespace Go.Proofs.YtoogmgckbalboaaDoor.Fpr
set_option linter.unusedVariables false
set_option linter.unusedSimpArgs false
open Go Go.RowKit Go.Proofs.YtoogmgckbalboaaDoor.Reg Go.Proofs.YtoogmgckbalboaaDoor.Base Go.Proofs.YtoogmgckbalboaaDoor.Limb Go.Proofs.YtoogmgckbalboaaDoor.Bits Go.Proofs.YtoogmgckbalboaaDoor.Fp

set_option maxRecDepth 100000 in
set_option maxHeartbeats 2000000 in
theorem refSign_c (a : List Int) (hla : a.length = 6) (hwa : Words a) (w : World) : Calls Tryd.prog 38 #[.agg (vals .u64 a)] w fun e w' => e = .returned (.int .i64 (sgn (num a))) ∧ Below w.heap.size w w' := by
  have P1 : Keep (∀ x : World, _) := ⟨fun x => refReduce_c a hla hwa x⟩
  obtain ⟨r, hr⟩ : ∃ o, fe (num a) = o := ⟨_, rfl⟩
  have Lr : Keep (r.length = 6) := ⟨by rw [← hr]; exact fe_len _⟩
  obtain ⟨s, hs⟩ : ∃ s, sgn (num a) = s := ⟨_, rfl⟩
  have hz : nth r 0 % 2 = s := by rw [← hr, ← hs]; exact sgn_nth _
  have hw0 : 0 ≤ nth r 0 ∧ nth r 0 ≤ 18446744073709551615 := by rw [← hr]; exact fe_words _ 0
  have h01 : 0 ≤ s ∧ s ≤ 1 := by have := sgn_or (num a); omega
  rw [hr] at P1
  rw [hs]
  obtain ⟨x0, hx0⟩ : ∃ x, nth r 0 = x := ⟨_, rfl⟩
  rw [hx0] at hz hw0
  have La : Keep (a.length = 6) := ⟨hla⟩
  have Lo : Keep (Z6.length = 6) := ⟨rfl⟩
  obtain ⟨S, hS⟩ : ∃ S, w.heap.size = S := ⟨_, rfl⟩
  have qa0 : Has (w.alloc (.cells (vals .u64 a) 24)) (S) 24 (vals .u64 a) := by exact (Has.new' _ hS.symm _ _)
  have hb0 : Below S w (w.alloc (.cells (vals .u64 a) 24)) := by rw [← hS]; exact ((Below.refl _ _).alloc (Nat.le_refl _) _)
  have hsz0 : (w.alloc (.cells (vals .u64 a) 24)).heap.size = S + 1 := by simp only [World.size_alloc, hS]
  have HS0 : Keep (S ≤ w.heap.size) := ⟨by omega⟩
  have HSS : Keep (∀ x : World, Below S w x → S ≤ x.heap.size) := ⟨fun x hb => Nat.le_trans HS0.out hb.size⟩
  rw [hS]
  clear hr hs hla hwa
  go_enter Tryd.func38, Tryd.ntmps38
  go_wp2_with (first
    | (refine store_abs2 (by rfl) 24 (.tmp 3) (.tmp 5) (by rfl) (by rfl) (w1.heap.size) (vals .u64 r) (by rfl) (by rfl) 24 (vals .u64 Z6) (Has.new' _ rfl _ _) (by rw [vals_size, Lr.out]; kernel_rfl) (by first | rfl | (rw [vals_size, vals_size, Lr.out]; rfl)) vals_one ?_
       intro w2 qr2 hkeep hbg
       have hbe := ((Below.refl (w1).heap.size (w1)).alloc (Nat.le_refl _) (.cells (vals .u64 Z6) 24)).trans hbg
       have Nar : Keep (S < w1.heap.size) := ⟨qa1.lt⟩
       have Mr : Keep (S ≤ w1.heap.size) := ⟨HSS.out _ hb1⟩
       have qa2 := qa1.keep hbe
       have hb2 := hb1.trans (hbe.mono (HSS.out _ hb1))
       have c0 := qr2.val (i := 0) (by rw [Lr.out]; decide)
       rw [hx0] at c0
       clear hkeep hbg hbe hb1 qa1)
    | (go_at_call 37
       refine (P1.out _).mono ?_
       rintro e w1 ⟨rfl, hq⟩
       have qa1 := qa0.keep hq
       have hb1 := hb0.trans (hq.mono (HSS.out _ hb0))
       clear hq hb0 qa0)
    | (refine wpList_load_row rfl 24 (.tmp 1) rfl (S) rfl _ _ _ _ qa0.eq Tryd.underlying24 rfl (by rw [vals_size, La.out]; kernel_rfl) ?_))
  go_ret
  exact ⟨rfl, hb2⟩

end Go.Proofs.YtoogmgckbalboaaDoor.Fpr
