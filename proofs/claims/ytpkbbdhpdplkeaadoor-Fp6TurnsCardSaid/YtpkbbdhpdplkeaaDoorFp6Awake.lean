/-
  Own text. The head of layer 9's statements.
-/
import Derived.Test.YtpkbbdhpdplkeaaDoorFp6Own
import Derived.Test.YtpkbbdhpdplkeaaDoorFp6Eq
import Derived.Test.YtpkbbdhpdplkeaaDoorFp6Ref3
import Derived.Test.YtpkbbdhpdplkeaaDoorFp6Math
namespace Go.Proofs.YtpkbbdhpdplkeaaDoor.Fp6
set_option linter.unusedVariables false
set_option linter.unusedSimpArgs false
open Go Go.RowKit Go.Proofs.YtpkbbdhpdplkeaaDoor.Reg Go.Proofs.YtpkbbdhpdplkeaaDoor.Base Go.Proofs.YtpkbbdhpdplkeaaDoor.Limb Go.Proofs.YtpkbbdhpdplkeaaDoor.Fp Go.Proofs.YtpkbbdhpdplkeaaDoor.Fp2

def O36l : List Int := [1, 0, 0, 0, 0, 0] ++ List.replicate 30 0
def N36d : List Int := List.replicate 36 0
theorem nm_N36d : Nm 36 N36d := ⟨rfl, words_zeros 36⟩
def V36d : List Int := List.replicate 12 0 ++ [1, 0, 0, 0, 0, 0] ++ List.replicate 18 0
def C36d : List Int := List.replicate 24 0 ++ [1, 0, 0, 0, 0, 0] ++ List.replicate 6 0
def X36d : List Int := [1, 0, 0, 0, 0, 0, 1, 0, 0, 0, 0, 0] ++ List.replicate 24 0
theorem nm_O36l : Nm 36 O36l := ⟨rfl, words_of _ (by decide)⟩
theorem nm_V36d : Nm 36 V36d := ⟨rfl, words_of _ (by decide)⟩
theorem nm_C36d : Nm 36 C36d := ⟨rfl, words_of _ (by decide)⟩
theorem nm_X36d : Nm 36 X36d := ⟨rfl, words_of _ (by decide)⟩
theorem aw_e1 : F6 (hm (v6 V36d) (v6 V36d)) = C36d := by decide +kernel
theorem aw_e2 : F6 (hm (v6 V36d) (v6 C36d)) = X36d := by decide +kernel
theorem aw_e3 : F6 (hv (v6 C36d)) = X36d := by decide +kernel
section
variable (p q r : H)
theorem fld1 : F6 (Fp6.ha p q) = F6 (Fp6.ha q p) := by rw [Fp6.ha_comm]
theorem fld2 : F6 (Fp6.hm p q) = F6 (Fp6.hm q p) := by rw [Fp6.hm_comm]
theorem fld3 : F6 (Fp6.ha (v6 (F6 (Fp6.ha p q))) r) = F6 (Fp6.ha p (v6 (F6 (Fp6.ha q r)))) :=
  F6_eq ((Fp6.ha_congr (v6_F6 _) E6.rfl).trans (by rw [Fp6.ha_assoc]; exact Fp6.ha_congr E6.rfl (v6_F6 _).symm))
theorem fld4 : F6 (Fp6.hm (v6 (F6 (Fp6.hm p q))) r) = F6 (Fp6.hm p (v6 (F6 (Fp6.hm q r)))) :=
  F6_eq ((Fp6.hm_congr (v6_F6 _) E6.rfl).trans (by rw [Fp6.hm_assoc]; exact Fp6.hm_congr E6.rfl (v6_F6 _).symm))
theorem fld5 : F6 (Fp6.hm p (v6 (F6 (Fp6.ha q r)))) = F6 (Fp6.ha (v6 (F6 (Fp6.hm p q))) (v6 (F6 (Fp6.hm p r)))) :=
  F6_eq ((Fp6.hm_congr E6.rfl (v6_F6 _)).trans (by rw [Fp6.hm_ha]; exact Fp6.ha_congr (v6_F6 _).symm (v6_F6 _).symm))
theorem fld6 : F6 (Fp6.hm p (v6 O36l)) = F6 p := by rw [show v6 O36l = ((1, 0), (0, 0), (0, 0)) by decide +kernel, Fp6.hm_one]
theorem fld7 : F6 (Fp6.hs (v6 (F6 (Fp6.ha p q))) q) = F6 p :=
  F6_eq ((Fp6.hs_congr (v6_F6 _) E6.rfl).trans (by rw [Fp6.hs_eq, Fp6.ha_assoc, Fp6.ha_hn, Fp6.ha_zero]; exact E6.rfl))
theorem zero_l : F6 O36 = N36d := by decide +kernel
theorem Fz (x : H) : F6 x = N36d ↔ Fp6.Z6 x := by
  rw [← zero_l]
  exact ⟨fun h => (Fp6.Z6_iff x).2 (F6_inj h), fun h => F6_eq ((Fp6.Z6_iff x).1 h)⟩
theorem one_l : F6 ((1, 0), (0, 0), (0, 0)) = O36l := by decide +kernel
end

theorem aw_e4 : F6 (hi (v6 N36d)) = N36d := (Fz _).2 (hi_zero ((Fz _).1 (by decide +kernel)))
theorem aw_e5 : F6 (hm (v6 (F6 (hi (v6 V36d)))) (v6 V36d)) = O36l := by
  rw [← one_l]
  refine F6_eq ((hm_congr (v6_F6 _) E6.rfl).trans ?_)
  rw [hm_comm]
  refine hm_hi (fun h => ?_)
  have h1 := (Fz _).2 h
  exact absurd h1 (by decide +kernel)

set_option maxRecDepth 100000 in
set_option maxHeartbeats 4000000 in
theorem one_c (w : World) : Calls Tryd.prog 26 #[] w fun e w' => e = .returned (.agg (vals .u64 O36l)) ∧ Below w.heap.size w w' := by
  have hR : Has (w.alloc (.cells (vals .u64 Fp6.Z36) 28)) w.heap.size 28 (vals .u64 Fp6.Z36) := Has.new _ _ _
  have hb : Below w.heap.size w (w.alloc (.cells (vals .u64 Fp6.Z36) 28)) := (Below.refl _ _).alloc (Nat.le_refl _) _
  go_enter Tryd.func26, Tryd.ntmps26
  go_wp2_with (first
    | (refine wpList_buildTo (by rfl) 24 #[(0, .const (.int .u64 1))] (by rfl) (some 1) (by rfl) (vals .u64 [1, 0, 0, 0, 0, 0]) (by kernel_rfl) ?_)
    | (refine wpList_buildTo (by rfl) 26 #[(0, .tmp 1)] (by rfl) (some 2) (by rfl) (vals .u64 ([1, 0, 0, 0, 0, 0] ++ List.replicate 6 0)) (by kernel_rfl) ?_)
    | (refine wpList_buildTo (by rfl) 28 #[(0, .tmp 2)] (by rfl) (some 3) (by rfl) (vals .u64 O36l) (by kernel_rfl) ?_)
    | (refine store_abs2 (by rfl) 28 (.tmp 0) (.tmp 3) (by rfl) (by rfl) w.heap.size (vals .u64 O36l) (by rfl) (by rfl) 28 _ hR (by kernel_rfl) (by rfl) vals_one ?_
       intro w1 q1 hkeep hbg
       have hb1 := hb.trans hbg))
  refine bodyPost_ret (v := .agg (vals .u64 O36l)) (results_cell_row rfl _ _ w.heap.size _ _ _ _ rfl q1.eq Tryd.underlying28 rfl (by kernel_rfl)) rfl ⟨rfl, hb1⟩

set_option maxRecDepth 100000 in
set_option maxHeartbeats 1000000 in
theorem awake_c (w : World) (hG : GlobD w) : Calls Tryd.prog 9 #[] w fun e w' => e = .returned (.bool true) ∧ Below w.heap.size w w' := by
  obtain ⟨S, hS⟩ : ∃ S, w.heap.size = S := ⟨_, rfl⟩
  have hb0 : Below S w w := hS ▸ Below.refl _ _
  have HSS : Keep (∀ x : World, Below S w x → S ≤ x.heap.size) := ⟨fun x hb => Nat.le_trans (by omega) hb.size⟩
  have HD : Keep (∀ x : World, Below S w x → GlobD x) := ⟨fun x hb => hG.keep (by rw [hS]; exact hb)⟩
  have HG : Keep (∀ x : World, Below S w x → Glob x) := ⟨fun x hb => (HD.out x hb).toGlob⟩
  clear hG
  have LV : Keep (V36d.length = 36) := ⟨rfl⟩
  have LX : Keep (X36d.length = 36) := ⟨rfl⟩
  rw [hS]
  go_enter Tryd.func9, Tryd.ntmps9
  go_wp2_with (first
    | (refine store_abs2 (by rfl) 28 (.tmp 3) (.tmp 11) (by rfl) (by rfl) (w2.heap.size) (vals .u64 V36d) (by rfl) (by rfl) 28 (vals .u64 Fp6.Z36) (Has.new' _ rfl _ _) (by rw [vals_size, LV.out]; kernel_rfl) (by first | (rw [vals_size, vals_size, LV.out]; rfl) | rfl) vals_one ?_
       intro w3 qv3 hkeep hbg
       have hbe := ((Below.refl w2.heap.size w2).alloc (Nat.le_refl _) (.cells (vals .u64 Fp6.Z36) 28)).trans hbg
       have Nkv := qk2.lt
       have qk3 := qk2.keep hbe
       have Nxv := qx2.lt
       have qx3 := qx2.keep hbe
       have Mv : S ≤ w2.heap.size := HSS.out _ hb2
       have hb3 := hb2.trans (hbe.mono (HSS.out _ hb2))
       clear hkeep hbg hbe hb2 qk2 qx2)
    | (refine wpList_buildTo (by rfl) 28 #[(1, .tmp 10)] (by rfl) (some 11) (by rfl) (vals .u64 V36d) (by kernel_rfl) ?_)
    | (refine wpList_load_row rfl 26 (.tmp 1) rfl (S) rfl _ _ _ _ qk2.eq Tryd.underlying26 rfl (by rw [vals_size, (show List.length _ = 12 from rfl)]; kernel_rfl) ?_)
    | (refine store_abs2 (by rfl) 28 (.tmp 2) (.tmp 9) (by rfl) (by rfl) (w1.heap.size) (vals .u64 X36d) (by rfl) (by rfl) 28 (vals .u64 Fp6.Z36) (Has.new' _ rfl _ _) (by rw [vals_size, LX.out]; kernel_rfl) (by first | (rw [vals_size, vals_size, LX.out]; rfl) | rfl) vals_one ?_
       intro w2 qx2 hkeep hbg
       have hbe := ((Below.refl w1.heap.size w1).alloc (Nat.le_refl _) (.cells (vals .u64 Fp6.Z36) 28)).trans hbg
       have Nkx := qk1.lt
       have qk2 := qk1.keep hbe
       have Mx : S ≤ w1.heap.size := HSS.out _ hb1
       have hb2 := hb1.trans (hbe.mono (HSS.out _ hb1))
       clear hkeep hbg hbe hb1 qk1)
    | (refine wpList_buildTo (by rfl) 28 #[(0, .tmp 8)] (by rfl) (some 9) (by rfl) (vals .u64 X36d) (by kernel_rfl) ?_)
    | (refine wpList_buildTo (by rfl) 26 #[(0, .tmp 6), (1, .tmp 7)] (by rfl) (some 8) (by rfl) (vals .u64 ([1, 0, 0, 0, 0, 0] ++ [1, 0, 0, 0, 0, 0])) (by kernel_rfl) ?_)
    | (refine wpList_buildTo (by rfl) 24 #[(0, .const (.int .u64 1))] (by rfl) (some 7) (by rfl) (vals .u64 [1, 0, 0, 0, 0, 0]) (by kernel_rfl) ?_)
    | (refine wpList_buildTo (by rfl) 24 #[(0, .const (.int .u64 1))] (by rfl) (some 6) (by rfl) (vals .u64 [1, 0, 0, 0, 0, 0]) (by kernel_rfl) ?_)
    | (refine store_abs2 (by rfl) 26 (.tmp 1) (.tmp 5) (by rfl) (by rfl) S (vals .u64 ([1, 0, 0, 0, 0, 0] ++ List.replicate 6 0)) (by rfl) (by rfl) 26 (vals .u64 Fp2.Z12) (Has.new' _ hS.symm _ _) (by kernel_rfl) (by rfl) vals_one ?_
       intro w1 qk1 hkeep hbg
       have hb1 := hb0.trans (((Below.refl S w).alloc (by omega) (.cells (vals .u64 Fp2.Z12) 26)).trans hbg)
       clear hkeep hbg hb0)
    | (refine wpList_buildTo (by rfl) 26 #[(0, .tmp 4)] (by rfl) (some 5) (by rfl) (vals .u64 ([1, 0, 0, 0, 0, 0] ++ List.replicate 6 0)) (by kernel_rfl) ?_)
    | (refine wpList_buildTo (by rfl) 24 #[(0, .const (.int .u64 1))] (by rfl) (some 4) (by rfl) (vals .u64 [1, 0, 0, 0, 0, 0]) (by kernel_rfl) ?_))
  refine wp_reads 36 0 w3.heap.size (by kernel_rfl) (by kernel_rfl) (by rfl) (by kernel_rfl) (fun _ _ d _ _ h => by cases d <;> exact h) ?_
  simp only [List.take_succ_cons, List.take_zero]
  repeat ((first
    | refine take_eql_t (by rfl) (by rfl) (by rfl) (by rfl) eqokh gdh (Nm.len (n := 36) (by with_reducible first | exact Nm.F2 _ | exact Nm.F6 _ | assumption | exact nm_N36d | exact nm_Z36 | exact nm_O36l | exact nm_V36d | exact nm_C36d | exact nm_X36d | (refine Nm.seg (m := 36) ?_ (by decide); assumption) | exact Nm.seg (m := 36) (Nm.F6 _) (by decide) | exact Nm.app3 (.F2 _) (.F2 _) (.F2 _) | fail)) (Nm.len (n := 36) (by with_reducible first | exact Nm.F2 _ | exact Nm.F6 _ | assumption | exact nm_N36d | exact nm_Z36 | exact nm_O36l | exact nm_V36d | exact nm_C36d | exact nm_X36d | (refine Nm.seg (m := 36) ?_ (by decide); assumption) | exact Nm.seg (m := 36) (Nm.F6 _) (by decide) | exact Nm.app3 (.F2 _) (.F2 _) (.F2 _) | fail)) (by with_reducible first | rfl | exact aw_e1 | exact aw_e2 | exact aw_e3 | exact aw_e4 | exact aw_e5) ?_
    | refine take_build (by rfl) (t := 28) (parts := #[(2, .tmp 15)]) (by rfl) (cells := vals .u64 C36d) (by kernel_rfl) ?_
    | refine take_build (by rfl) (t := 28) (parts := #[(2, .tmp 20)]) (by rfl) (cells := vals .u64 C36d) (by kernel_rfl) ?_
    | refine take_build (by rfl) (t := 28) (parts := #[(2, .tmp 27)]) (by rfl) (cells := vals .u64 C36d) (by kernel_rfl) ?_
    | refine take_build (by rfl) (t := 28) (parts := #[]) (by rfl) (cells := vals .u64 N36d) (by kernel_rfl) ?_
    | refine take_loadw (by rfl) 26 (by rfl) (g := S) (n := 12) (by rfl) (t := 26) (xs := ([1, 0, 0, 0, 0, 0] ++ List.replicate 6 0)) (fun w hw => hw.has qk3 (Nat.ne_of_lt qk3.lt)) Tryd.underlying26 rfl (by kernel_rfl) (show List.length _ = 12 from rfl) ?_
    | refine take_load (by rfl) 26 (by rfl) (g := w1.heap.size) (n := 12) (by rfl) (t := 28) (xs := X36d) (fun w hw => hw.has qx3 (Nat.ne_of_lt qx3.lt)) Tryd.underlying26 rfl (by kernel_rfl) (by rw [LX.out]; decide) ?_
    | refine take_loadw (by rfl) 28 (by rfl) (g := w1.heap.size) (n := 36) (by rfl) (t := 28) (xs := X36d) (fun w hw => hw.has qx3 (Nat.ne_of_lt qx3.lt)) Tryd.underlying28 rfl (by kernel_rfl) LX.out ?_
    | refine take_load (by rfl) 26 (by rfl) (g := w2.heap.size) (n := 12) (by rfl) (t := 28) (xs := V36d) (fun w hw => hw.has qv3 (Nat.ne_of_lt qv3.lt)) Tryd.underlying26 rfl (by kernel_rfl) (by rw [LV.out]; decide) ?_
    | refine take_loadw (by rfl) 28 (by rfl) (g := w2.heap.size) (n := 36) (by rfl) (t := 28) (xs := V36d) (fun w hw => hw.has qv3 (Nat.ne_of_lt qv3.lt)) Tryd.underlying28 rfl (by kernel_rfl) LV.out ?_
    | refine wpTake_cons (.inl ⟨by rfl, fun w hw => (by unfold Oper.quietAt; go_simp; (first | with_reducible refine lRed6 _ ?_ _ (HG.out _ (hb3.trans (hw.below (HSS.out _ hb3) (HSS.out _ hb3)))) | with_reducible refine lAdd6 _ ?_ _ ?_ _ (HG.out _ (hb3.trans (hw.below (HSS.out _ hb3) (HSS.out _ hb3)))) | with_reducible refine lSub6 _ ?_ _ ?_ _ (HG.out _ (hb3.trans (hw.below (HSS.out _ hb3) (HSS.out _ hb3)))) | with_reducible refine lNeg6 _ ?_ _ (HG.out _ (hb3.trans (hw.below (HSS.out _ hb3) (HSS.out _ hb3)))) | with_reducible refine lMul6 _ ?_ _ ?_ _ (HG.out _ (hb3.trans (hw.below (HSS.out _ hb3) (HSS.out _ hb3)))) | with_reducible refine lInv6 _ ?_ _ (HD.out _ (hb3.trans (hw.below (HSS.out _ hb3) (HSS.out _ hb3)))) | with_reducible refine lScale6 _ ?_ _ ?_ _ (HG.out _ (hb3.trans (hw.below (HSS.out _ hb3) (HSS.out _ hb3)))) | with_reducible refine lV6 _ ?_ _ (HG.out _ (hb3.trans (hw.below (HSS.out _ hb3) (HSS.out _ hb3)))) | with_reducible refine one_c _) <;> (with_reducible first | exact Nm.F2 _ | exact Nm.F6 _ | assumption | exact nm_N36d | exact nm_Z36 | exact nm_O36l | exact nm_V36d | exact nm_C36d | exact nm_X36d | (refine Nm.seg (m := 36) ?_ (by decide); assumption) | exact Nm.seg (m := 36) (Nm.F6 _) (by decide) | exact Nm.app3 (.F2 _) (.F2 _) (.F2 _) | fail))⟩) ?_
    | refine wpTake_cons (Steady.of_yields (Or.inl ⟨by rfl, fun w => (by first | (go_simp; done) | (go_simp; with_reducible rfl))⟩)) ?_); simp only [List.getElem_toArray, List.getElem_cons_zero, List.getElem_cons_succ, Act.put, List.setIfInBounds_toArray, List.set_cons_zero, List.set_cons_succ])
  refine wpTake_nil ?_
  refine wpAnyU_end (by kernel_rfl) (fun w4 hq0 => ?_)
  have hq := (drawn_below w3).trans hq0
  have qk4 := qk3.keep hq
  have qx4 := qx3.keep hq
  have qv4 := qv3.keep hq
  have hb4 := hb3.trans (hq.mono (HSS.out _ hb3))
  clear hq0 hq hb3 qk3 qx3 qv3
  go_wp2
  go_ret
  exact ⟨rfl, hb4⟩

end Go.Proofs.YtpkbbdhpdplkeaaDoor.Fp6
