/-
  Own text. The walks of layer 7's statements: powers.
-/
import Derived.Test.YtdldebceailgdaaDoorFp2Awake
import Derived.Test.YtdldebceailgdaaDoorFp2Own2
namespace Go.Proofs.YtdldebceailgdaaDoor.Fp2
set_option linter.unusedVariables false
set_option linter.unusedSimpArgs false
open Go Go.RowKit Go.Proofs.YtdldebceailgdaaDoor.Reg Go.Proofs.YtdldebceailgdaaDoor.Base Go.Proofs.YtdldebceailgdaaDoor.Limb Go.Proofs.YtdldebceailgdaaDoor.Fp

set_option maxRecDepth 100000 in
set_option maxHeartbeats 4000000 in
theorem powers_small (a : List Int) (ha : Nm 12 a) (A : Option Addr) (n c : Nat) (l : List Int) (w : World) (hG : GlobD w) (hr : Rd w w.heap.size A n .u64 l) (hwl : Words l) (hn : n ≤ 8) : Calls Tryd.prog 5 #[.agg (vals .u64 a), .slice A n c] w fun e w' => e = .returned (.bool true) ∧ Below w.heap.size w w' := by
  obtain ⟨S, hS⟩ : ∃ S, w.heap.size = S := ⟨_, rfl⟩
  have qa0 : Has (w.alloc (.cells (vals .u64 a) 26)) (S) 26 (vals .u64 a) := (Has.new' _ hS.symm _ _)
  have hb0 : Below S w (w.alloc (.cells (vals .u64 a) 26)) := by rw [← hS]; exact ((Below.refl _ _).alloc (Nat.le_refl _) _)
  have hsz0 : (w.alloc (.cells (vals .u64 a) 26)).heap.size = S + 1 := by simp only [World.size_alloc, hS]
  have HSS : Keep (∀ x : World, Below S w x → S ≤ x.heap.size) := ⟨fun x hb => Nat.le_trans (by omega) hb.size⟩
  have HD : Keep (∀ x : World, Below S w x → GlobD x) := ⟨fun x hb => hG.keep (by rw [hS]; exact hb)⟩
  have HG : Keep (∀ x : World, Below S w x → Glob x) := ⟨fun x hb => (HD.out x hb).toGlob⟩
  clear hG
  have hr' : Rd w S A n .u64 l := by rw [← hS]; exact hr
  have P1 : Keep (∀ x : World, Below S w x → Calls Tryd.prog 30 #[.agg (vals .u64 a), .slice A n c] x fun e w' => e = .returned (.agg (vals .u64 (F2 (gp (v2 a) (num l).toNat)))) ∧ Below x.heap.size x w') := ⟨fun x hb => lPow2 a ha A n c l S x (HG.out _ hb) (hr'.keep hb (Nat.le_refl _)) hwl (HSS.out _ hb) (by omega)⟩
  have P2 : Keep (∀ x : World, Below S w x → Calls Tryd.prog 31 #[.agg (vals .u64 a), .slice A n c] x fun e w' => e = .returned (.agg (vals .u64 (F2 (gp (v2 a) (num l).toNat)))) ∧ Below x.heap.size x w') := ⟨fun x hb => refPow2 a ha A n c l S x (hr'.keep hb (Nat.le_refl _)) hwl (HSS.out _ hb) (by omega)⟩
  clear hr hr' hwl
  rw [hS]
  go_enter Tryd.func5, Tryd.ntmps5
  go_wp2_with (first
    | (have hq0 := hb0
       clear hq0
       go_at_call 11
       refine (awake_c _ (HD.out _ hb0)).mono ?_
       rintro e w1 ⟨rfl, hq⟩
       have qa1 := qa0.keep hq
       have hb1 := hb0.trans (hq.mono (HSS.out _ hb0))
       clear hq hb0 qa0))
  refine wp_reads 11 0 w1.heap.size (by kernel_rfl) (by kernel_rfl) (by rfl) (by kernel_rfl) (fun _ _ d _ _ h => by cases d <;> exact h) ?_
  simp only [List.take_succ_cons, List.take_zero]
  repeat ((first
    | refine take_eql_t (by rfl) (by rfl) (by rfl) (by rfl) eqok2 gd2 (Nm.len (n := 12) (by with_reducible first | exact Nm.fe _ | exact Nm.F2 _ | assumption | exact nm_one | exact nm_Z6 | (refine Nm.seg (m := 12) ?_ (by decide); assumption) | exact Nm.seg (m := 12) (Nm.F2 _) (by decide) | exact Nm.app2 (.fe _) (.fe _) | exact nm_two | exact nm_rep | exact nm_Z12 | exact Nm.app2 nm_one nm_one | exact Nm.app2 nm_one nm_rep | exact Nm.app2 nm_rep nm_one | exact Nm.app2 nm_two nm_rep | (refine Nm.app2 ?_ nm_Z6; assumption) | exact Nm.app2 (.fe _) nm_Z6 | exact ⟨rfl, words_of _ (by decide)⟩ | fail)) (Nm.len (n := 12) (by with_reducible first | exact Nm.fe _ | exact Nm.F2 _ | assumption | exact nm_one | exact nm_Z6 | (refine Nm.seg (m := 12) ?_ (by decide); assumption) | exact Nm.seg (m := 12) (Nm.F2 _) (by decide) | exact Nm.app2 (.fe _) (.fe _) | exact nm_two | exact nm_rep | exact nm_Z12 | exact Nm.app2 nm_one nm_one | exact Nm.app2 nm_one nm_rep | exact Nm.app2 nm_rep nm_one | exact Nm.app2 nm_two nm_rep | (refine Nm.app2 ?_ nm_Z6; assumption) | exact Nm.app2 (.fe _) nm_Z6 | exact ⟨rfl, words_of _ (by decide)⟩ | fail)) (by with_reducible first | rfl) ?_
    | refine take_load (by rfl) 24 (by rfl) (g := S) (n := 6) (by rfl) (t := 26) (xs := a) (fun w hw => hw.has qa1 (Nat.ne_of_lt qa1.lt)) Tryd.underlying24 rfl (by kernel_rfl) (by rw [ha.len]; decide) ?_
    | refine take_loadw (by rfl) 26 (by rfl) (g := S) (n := 12) (by rfl) (t := 26) (xs := a) (fun w hw => hw.has qa1 (Nat.ne_of_lt qa1.lt)) Tryd.underlying26 rfl (by kernel_rfl) ha.len ?_
    | refine wpTake_cons (.inl ⟨by rfl, fun w hw => (by unfold Oper.quietAt; go_simp; (first | with_reducible refine P1.out _ (hb1.trans (hw.below (HSS.out _ hb1) (HSS.out _ hb1))) | with_reducible refine P2.out _ (hb1.trans (hw.below (HSS.out _ hb1) (HSS.out _ hb1)))) <;> (with_reducible first | exact Nm.fe _ | exact Nm.F2 _ | assumption | exact nm_one | exact nm_Z6 | (refine Nm.seg (m := 12) ?_ (by decide); assumption) | exact Nm.seg (m := 12) (Nm.F2 _) (by decide) | exact Nm.app2 (.fe _) (.fe _) | exact nm_two | exact nm_rep | exact nm_Z12 | exact Nm.app2 nm_one nm_one | exact Nm.app2 nm_one nm_rep | exact Nm.app2 nm_rep nm_one | exact Nm.app2 nm_two nm_rep | (refine Nm.app2 ?_ nm_Z6; assumption) | exact Nm.app2 (.fe _) nm_Z6 | exact ⟨rfl, words_of _ (by decide)⟩ | fail))⟩) ?_
    | refine wpTake_cons (Steady.of_yields (Or.inl ⟨by rfl, fun w => (by first | (go_simp; done) | (go_simp; with_reducible rfl))⟩)) ?_); simp only [List.getElem_toArray, List.getElem_cons_zero, List.getElem_cons_succ, Act.put, List.setIfInBounds_toArray, List.set_cons_zero, List.set_cons_succ])
  refine wpTake_nil ?_
  refine wpAnyU_end (by kernel_rfl) (fun w2 hq0 => ?_)
  have hq := (drawn_below w1).trans hq0
  have qa2 := qa1.keep hq
  have hb2 := hb1.trans (hq.mono (HSS.out _ hb1))
  clear hq0 hq hb1 qa1
  go_wp2
  go_ret
  exact ⟨rfl, hb2⟩

set_option maxRecDepth 100000 in
set_option maxHeartbeats 4000000 in
theorem powers_big (a : List Int) (ha : Nm 12 a) (A : Option Addr) (n c : Nat) (l : List Int) (w : World) (hG : GlobD w) (hn : 8 < n) : Calls Tryd.prog 5 #[.agg (vals .u64 a), .slice A n c] w fun e w' => e = .returned (.bool true) ∧ Below w.heap.size w w' := by
  obtain ⟨S, hS⟩ : ∃ S, w.heap.size = S := ⟨_, rfl⟩
  have qa0 : Has (w.alloc (.cells (vals .u64 a) 26)) (S) 26 (vals .u64 a) := (Has.new' _ hS.symm _ _)
  have hb0 : Below S w (w.alloc (.cells (vals .u64 a) 26)) := by rw [← hS]; exact ((Below.refl _ _).alloc (Nat.le_refl _) _)
  have hsz0 : (w.alloc (.cells (vals .u64 a) 26)).heap.size = S + 1 := by simp only [World.size_alloc, hS]
  have HSS : Keep (∀ x : World, Below S w x → S ≤ x.heap.size) := ⟨fun x hb => Nat.le_trans (by omega) hb.size⟩
  have HD : Keep (∀ x : World, Below S w x → GlobD x) := ⟨fun x hb => hG.keep (by rw [hS]; exact hb)⟩
  have HG : Keep (∀ x : World, Below S w x → Glob x) := ⟨fun x hb => (HD.out x hb).toGlob⟩
  clear hG
  rw [hS]
  go_enter Tryd.func5, Tryd.ntmps5
  go_wp2_with (first
    | (have hq0 := hb0
       clear hq0
       go_at_call 11
       refine (awake_c _ (HD.out _ hb0)).mono ?_
       rintro e w1 ⟨rfl, hq⟩
       have qa1 := qa0.keep hq
       have hb1 := hb0.trans (hq.mono (HSS.out _ hb0))
       clear hq hb0 qa0))
  go_ret
  exact ⟨rfl, hb1⟩

set_option maxRecDepth 100000 in
set_option maxHeartbeats 4000000 in
theorem powers_w (a : List Int) (ha : Nm 12 a) (A : Option Addr) (n c : Nat) (l : List Int) (w : World) (hG : GlobD w) (h : Rd w w.heap.size A n .u64 l ∧ Words l) : Calls Tryd.prog 5 #[.agg (vals .u64 a), .slice A n c] w fun e w' => e = .returned (.bool true) ∧ Below w.heap.size w w' := by
  by_cases hn : n ≤ 8
  · exact powers_small a ha A n c l w hG h.1 h.2 hn
  · exact powers_big a ha A n c l w hG (by omega)

end Go.Proofs.YtdldebceailgdaaDoor.Fp2
