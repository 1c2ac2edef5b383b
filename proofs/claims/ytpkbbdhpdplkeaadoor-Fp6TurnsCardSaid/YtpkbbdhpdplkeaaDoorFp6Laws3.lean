/-
  Own text. The walks of layer 9's statements: multiples by v, numbers without v.
-/
import Derived.Test.YtpkbbdhpdplkeaaDoorFp6Awake
import Derived.Test.YtpkbbdhpdplkeaaDoorFp2Own
import Derived.Test.YtpkbbdhpdplkeaaDoorFp2OwnI
namespace Go.Proofs.YtpkbbdhpdplkeaaDoor.Fp6
set_option linter.unusedVariables false
set_option linter.unusedSimpArgs false
open Go Go.RowKit Go.Proofs.YtpkbbdhpdplkeaaDoor.Reg Go.Proofs.YtpkbbdhpdplkeaaDoor.Base Go.Proofs.YtpkbbdhpdplkeaaDoor.Limb Go.Proofs.YtpkbbdhpdplkeaaDoor.Fp Go.Proofs.YtpkbbdhpdplkeaaDoor.Fp2

def N24 : List Int := List.replicate 24 0
theorem build6a {x : List Int} (h : Nm 12 x) : Tryd.prog.built 28 [(0, .agg (vals .u64 x))] = some (vals .u64 (x ++ N24)) := by
  rw [built6, fill_part (off := 0) (n := 12) rfl h.len (by simp)]
  simp [Instr.fill, N24]
theorem nm_k {x : List Int} (h : Nm 12 x) : Nm 36 (x ++ N24) := h.app (m := 24) ⟨rfl, words_zeros 24⟩
theorem v6_k {x : List Int} (h : Nm 12 x) : v6 (x ++ N24) = (v2 x, (0, 0), (0, 0)) := by
  rw [show N24 = List.replicate 12 0 ++ List.replicate 12 0 by decide, ← List.append_assoc, v6_app h ⟨rfl, words_zeros 12⟩ ⟨rfl, words_zeros 12⟩, show v2 (List.replicate 12 0) = (0, 0) by decide +kernel]
theorem F6_k (p : G) : F6 (p, (0, 0), (0, 0)) = F2 p ++ N24 := by
  rw [F6, F2_nil, List.append_assoc]
  rfl
theorem tu1 (a : List Int) : F6 (hv (v6 a)) = F2 (gm (v2 (seg 24 12 a)) (1, 1)) ++ F2 (v2 (seg 0 12 a)) ++ F2 (v2 (seg 12 12 a)) := rfl
theorem hv_congr6 {p q : H} (h : E6 p q) : E6 (hv p) (hv q) := ⟨gx_congr h.2.2, h.1, h.2.1⟩
theorem tu2 (a : List Int) : F6 (hv (v6 (F6 (hv (v6 (F6 (hv (v6 a)))))))) = F6 (Fp6.hk (v6 a) (v2 [1, 0, 0, 0, 0, 0, 1, 0, 0, 0, 0, 0])) := by
  rw [show v2 [1, 0, 0, 0, 0, 0, 1, 0, 0, 0, 0, 0] = (1, 1) by decide +kernel]
  exact F6_eq ((hv_congr6 ((v6_F6 _).trans (hv_congr6 (v6_F6 _)))))
theorem tu3 (a : List Int) {k : List Int} (h : Nm 12 k) : F6 (Fp6.hk (v6 a) (v2 k)) = F6 (hm (v6 a) (v6 (k ++ N24))) := by rw [v6_k h, hm_k]
theorem gi_one {p x : G} (h : E2 (gm p x) (1, 0)) : E2 x (gi p) := by
  have hp : ¬ Z2 p := fun h0 => by
    have := Z2.congr h (gm_zl h0)
    exact absurd this.1 (by decide +kernel)
  have h1 := gm_congr (E2.rfl (p := gi p)) h
  rw [gm_one, ← gm_assoc, gm_comm (gi p) p] at h1
  have h2 := gm_congr (gm_gi hp) (E2.rfl (p := x))
  rw [gm_comm (1, 0) x, gm_one] at h2
  exact h2.symm.trans h1
theorem in_1 (p q : G) : Fp6.ha (p, (0, 0), (0, 0)) (q, (0, 0), (0, 0)) = (ga p q, (0, 0), (0, 0)) := by simp [Fp6.ha, ga]
theorem in_2 (p q : G) : hm (p, (0, 0), (0, 0)) (q, (0, 0), (0, 0)) = (gm p q, (0, 0), (0, 0)) := by
  apply hext <;> apply Prod.ext <;> simp [hm, ga, gm, gx]
theorem in_3 (p : G) : E6 (hi (p, (0, 0), (0, 0))) (gi p, (0, 0), (0, 0)) := by
  have e1 : Fp6.hc (p, (0, 0), (0, 0)) = (gm p p, (0, 0), (0, 0)) := by
    apply hext <;> apply Prod.ext <;> simp [Fp6.hc, gs, gm, gx]
  have e2 : hi (p, (0, 0), (0, 0)) = (gm (gm p p) (gi (gm p (gm p p))), gm (0, 0) (gi (gm p (gm p p))), gm (0, 0) (gi (gm p (gm p p)))) := by
    rw [hi, e1, in_2]
    rfl
  have z : ∀ i : G, gm (0, 0) i = (0, 0) := fun i => by apply Prod.ext <;> simp [gm]
  rw [e2, z]
  refine ⟨?_, E2.rfl, E2.rfl⟩
  by_cases hp : Z2 p
  · have h1 := gm_zl (q := gi (gm p (gm p p))) (gm_zl (q := p) hp)
    have h2 := gi_zero hp
    exact ⟨by rw [h1.1, h2.1], by rw [h1.2, h2.2]⟩
  · refine gi_one ?_
    rw [← gm_assoc]
    refine gm_gi (fun h => hp ?_)
    exact gm_zero (gm_zero h hp) hp
theorem in_4 (p : G) : Fp6.hn (p, (0, 0), (0, 0)) = (gn p, (0, 0), (0, 0)) := by simp [Fp6.hn, gn]
section
variable {a b : List Int}
theorem wi1 (h : Nm 12 a) (h' : Nm 12 b) : F6 (Fp6.ha (v6 (a ++ N24)) (v6 (b ++ N24))) = F2 (ga (v2 a) (v2 b)) ++ N24 := by rw [v6_k h, v6_k h', in_1, F6_k]
theorem wi2 (h : Nm 12 a) (h' : Nm 12 b) : F6 (hm (v6 (a ++ N24)) (v6 (b ++ N24))) = F2 (gm (v2 a) (v2 b)) ++ N24 := by rw [v6_k h, v6_k h', in_2, F6_k]
theorem wi3 (h : Nm 12 a) : F6 (hi (v6 (a ++ N24))) = F2 (gi (v2 a)) ++ N24 := by rw [v6_k h, F6_eq (in_3 _), F6_k]
theorem wi4 (h : Nm 12 a) : F6 (Fp6.hn (v6 (a ++ N24))) = F2 (gn (v2 a)) ++ N24 := by rw [v6_k h, in_4, F6_k]
end

set_option maxRecDepth 100000 in
set_option maxHeartbeats 4000000 in
theorem turns_w (a : List Int) (ha : Nm 36 a) (k : List Int) (hk : Nm 12 k) (w : World) (hG : GlobD w) : Calls Tryd.prog 7 #[.agg (vals .u64 a), .agg (vals .u64 k)] w fun e w' => e = .returned (.bool true) ∧ Below w.heap.size w w' := by
  obtain ⟨T0, hT0⟩ : ∃ T, F2 (gm (v2 (seg 24 12 a)) (1, 1)) ++ F2 (v2 (seg 0 12 a)) ++ F2 (v2 (seg 12 12 a)) = T := ⟨_, rfl⟩
  have nT : Nm 36 T0 := hT0 ▸ Nm.app3 (.F2 _) (.F2 _) (.F2 _)
  have KB : Keep (Tryd.prog.built 28 [(0, .agg (vals .u64 (F2 (gm (v2 (seg 24 12 a)) (1, 1))))), (1, .agg (vals .u64 (F2 (v2 (seg 0 12 a))))), (2, .agg (vals .u64 (F2 (v2 (seg 12 12 a)))))] = some (vals .u64 T0)) := ⟨hT0 ▸ build3 (.F2 _) (.F2 _) (.F2 _)⟩
  have HT : Keep ((F6 (hv (v6 a))) = T0) := ⟨hT0 ▸ tu1 a⟩
  have nm_X12 : Nm 12 [1, 0, 0, 0, 0, 0, 1, 0, 0, 0, 0, 0] := ⟨rfl, words_of _ (by decide)⟩
  have LX : Keep (List.length ([1, 0, 0, 0, 0, 0, 1, 0, 0, 0, 0, 0] : List Int) = 12) := ⟨rfl⟩
  obtain ⟨S, hS⟩ : ∃ S, w.heap.size = S := ⟨_, rfl⟩
  have qa0 : Has ((w.alloc (.cells (vals .u64 a) 28)).alloc (.cells (vals .u64 k) 26)) (S) 28 (vals .u64 a) := ((Has.new' _ hS.symm _ _).alloc _)
  have qk0 : Has ((w.alloc (.cells (vals .u64 a) 28)).alloc (.cells (vals .u64 k) 26)) (S + 1) 26 (vals .u64 k) := (Has.new' _ (by simp only [World.size_alloc, hS]) _ _)
  have hb0 : Below S w ((w.alloc (.cells (vals .u64 a) 28)).alloc (.cells (vals .u64 k) 26)) := by rw [← hS]; exact (((Below.refl _ _).alloc (Nat.le_refl _) _).alloc (by simp <;> omega) _)
  have hsz0 : ((w.alloc (.cells (vals .u64 a) 28)).alloc (.cells (vals .u64 k) 26)).heap.size = S + 2 := by simp only [World.size_alloc, hS]
  have HSS : Keep (∀ x : World, Below S w x → S ≤ x.heap.size) := ⟨fun x hb => Nat.le_trans (by omega) hb.size⟩
  have HD : Keep (∀ x : World, Below S w x → GlobD x) := ⟨fun x hb => hG.keep (by rw [hS]; exact hb)⟩
  have HG : Keep (∀ x : World, Below S w x → Glob x) := ⟨fun x hb => (HD.out x hb).toGlob⟩
  clear hG
  clear hT0
  rw [hS]
  go_enter Tryd.func7, Tryd.ntmps7
  go_wp2_with (first
    | (refine store_abs2 (by rfl) 28 (.tmp 7) (.tmp 15) (by rfl) (by rfl) (w5.heap.size) (vals .u64 (F6 (hv (v6 (F6 (hv (v6 (F6 (hv (v6 a)))))))))) (by rfl) (by rfl) 28 (vals .u64 Fp6.Z36) (Has.new' _ rfl _ _) (by rw [vals_size, (Nm.F6 _).len]; kernel_rfl) (by first | (rw [vals_size, vals_size, (Nm.F6 _).len]; rfl) | rfl) vals_one ?_
       intro w6 qu26 hkeep hbg
       have hbe := ((Below.refl w5.heap.size w5).alloc (Nat.le_refl _) (.cells (vals .u64 Fp6.Z36) 28)).trans hbg
       have Nau2 := qa5.lt
       have qa6 := qa5.keep hbe
       have Nku2 := qk5.lt
       have qk6 := qk5.keep hbe
       have Nu1u2 := qu15.lt
       have qu16 := qu15.keep hbe
       have Mu2 : S ≤ w5.heap.size := HSS.out _ hb5
       have hb6 := hb5.trans (hbe.mono (HSS.out _ hb5))
       clear hkeep hbg hbe hb5 qa5 qk5 qu15)
    | (have hq0 := hb4
       clear hq0
       go_at_call 24
       refine (lV6 (F6 (hv (v6 (F6 (hv (v6 a)))))) (Nm.F6 _) _ (HG.out _ hb4)).mono ?_
       rintro e w5 ⟨rfl, hq⟩
       have qa5 := qa4.keep hq
       have qk5 := qk4.keep hq
       have qu15 := qu14.keep hq
       have hb5 := hb4.trans (hq.mono (HSS.out _ hb4))
       clear hq hb4 qa4 qk4 qu14)
    | (have hq0 := hb3
       clear hq0
       go_at_call 24
       refine (lV6 (F6 (hv (v6 a))) (Nm.F6 _) _ (HG.out _ hb3)).mono ?_
       rintro e w4 ⟨rfl, hq⟩
       have qa4 := qa3.keep hq
       have qk4 := qk3.keep hq
       have qu14 := qu13.keep hq
       have hb4 := hb3.trans (hq.mono (HSS.out _ hb3))
       clear hq hb3 qa3 qk3 qu13)
    | (refine wpList_load_row rfl 28 (.tmp 6) rfl (w2.heap.size) rfl _ _ _ _ qu13.eq Tryd.underlying28 rfl (by rw [vals_size, (Nm.F6 _).len]; kernel_rfl) ?_)
    | (refine store_abs2 (by rfl) 28 (.tmp 6) (.tmp 12) (by rfl) (by rfl) (w2.heap.size) (vals .u64 (F6 (hv (v6 a)))) (by rfl) (by rfl) 28 (vals .u64 Fp6.Z36) (Has.new' _ rfl _ _) (by rw [vals_size, (Nm.F6 _).len]; kernel_rfl) (by first | (rw [vals_size, vals_size, (Nm.F6 _).len]; rfl) | rfl) vals_one ?_
       intro w3 qu13 hkeep hbg
       have hbe := ((Below.refl w2.heap.size w2).alloc (Nat.le_refl _) (.cells (vals .u64 Fp6.Z36) 28)).trans hbg
       have Nau1 := qa2.lt
       have qa3 := qa2.keep hbe
       have Nku1 := qk2.lt
       have qk3 := qk2.keep hbe
       have Mu1 : S ≤ w2.heap.size := HSS.out _ hb2
       have hb3 := hb2.trans (hbe.mono (HSS.out _ hb2))
       clear hkeep hbg hbe hb2 qa2 qk2)
    | (have hq0 := hb1
       clear hq0
       go_at_call 24
       refine (lV6 a ha _ (HG.out _ hb1)).mono ?_
       rintro e w2 ⟨rfl, hq⟩
       have qa2 := qa1.keep hq
       have qk2 := qk1.keep hq
       have hb2 := hb1.trans (hq.mono (HSS.out _ hb1))
       clear hq hb1 qa1 qk1)
    | (refine wpList_load_row rfl 28 (.tmp 2) rfl (S) rfl _ _ _ _ qa1.eq Tryd.underlying28 rfl (by rw [vals_size, ha.len]; kernel_rfl) ?_)
    | (have hq0 := hb0
       clear hq0
       go_at_call 9
       refine (awake_c _ (HD.out _ hb0)).mono ?_
       rintro e w1 ⟨rfl, hq⟩
       have qa1 := qa0.keep hq
       have qk1 := qk0.keep hq
       have hb1 := hb0.trans (hq.mono (HSS.out _ hb0))
       clear hq hb0 qa0 qk0))
  refine wp_reads 10 2 w6.heap.size (by kernel_rfl) (by kernel_rfl) (by rfl) (by kernel_rfl) (fun _ _ d _ _ h => by cases d <;> exact h) ?_
  simp only [List.take_succ_cons, List.take_zero]
  repeat ((first
    | refine take_load (by rfl) 26 (by rfl) (g := S) (n := 12) (by rfl) (t := 28) (xs := a) (fun w hw => hw.has qa6 (Nat.ne_of_lt qa6.lt)) Tryd.underlying26 rfl (by kernel_rfl) (by rw [ha.len]; decide) ?_
    | refine take_loadw (by rfl) 28 (by rfl) (g := S) (n := 36) (by rfl) (t := 28) (xs := a) (fun w hw => hw.has qa6 (Nat.ne_of_lt qa6.lt)) Tryd.underlying28 rfl (by kernel_rfl) ha.len ?_
    | refine take_loadw (by rfl) 26 (by rfl) (g := S + 1) (n := 12) (by rfl) (t := 26) (xs := k) (fun w hw => hw.has qk6 (Nat.ne_of_lt qk6.lt)) Tryd.underlying26 rfl (by kernel_rfl) hk.len ?_
    | refine take_load (by rfl) 26 (by rfl) (g := w2.heap.size) (n := 12) (by rfl) (t := 28) (xs := (F6 (hv (v6 a)))) (fun w hw => hw.has qu16 (Nat.ne_of_lt qu16.lt)) Tryd.underlying26 rfl (by kernel_rfl) (by rw [(Nm.F6 _).len]; decide) ?_
    | refine take_loadw (by rfl) 28 (by rfl) (g := w2.heap.size) (n := 36) (by rfl) (t := 28) (xs := (F6 (hv (v6 a)))) (fun w hw => hw.has qu16 (Nat.ne_of_lt qu16.lt)) Tryd.underlying28 rfl (by kernel_rfl) (Nm.F6 _).len ?_
    | refine take_load (by rfl) 26 (by rfl) (g := w5.heap.size) (n := 12) (by rfl) (t := 28) (xs := (F6 (hv (v6 (F6 (hv (v6 (F6 (hv (v6 a)))))))))) (fun w hw => hw.has qu26 (Nat.ne_of_lt qu26.lt)) Tryd.underlying26 rfl (by kernel_rfl) (by rw [(Nm.F6 _).len]; decide) ?_
    | refine take_loadw (by rfl) 28 (by rfl) (g := w5.heap.size) (n := 36) (by rfl) (t := 28) (xs := (F6 (hv (v6 (F6 (hv (v6 (F6 (hv (v6 a)))))))))) (fun w hw => hw.has qu26 (Nat.ne_of_lt qu26.lt)) Tryd.underlying28 rfl (by kernel_rfl) (Nm.F6 _).len ?_
    | refine take_build (by rfl) (by rfl) (by refine KB.out <;> (with_reducible first | exact Nm.F2 _ | exact Nm.F6 _ | assumption | exact nm_N36d | exact nm_Z36 | exact nm_O36l | exact nm_V36d | exact nm_C36d | exact nm_X36d | (refine Nm.seg (m := 36) ?_ (by decide); assumption) | exact Nm.seg (m := 36) (Nm.F6 _) (by decide) | exact Nm.app3 (.F2 _) (.F2 _) (.F2 _) | exact nm_k (.F2 _) | (refine nm_k ?_; assumption) | exact nm_X12 | fail)) ?_
    | refine wpTake_cons (.inl ⟨by rfl, fun w hw => (by unfold Oper.quietAt; go_simp; (first | with_reducible refine lXi2 _ ?_ _ (HG.out _ (hb6.trans (hw.below (HSS.out _ hb6) (HSS.out _ hb6)))) | with_reducible refine lRed2 _ ?_ _ (HG.out _ (hb6.trans (hw.below (HSS.out _ hb6) (HSS.out _ hb6))))) <;> (with_reducible first | exact Nm.F2 _ | exact Nm.F6 _ | assumption | exact nm_N36d | exact nm_Z36 | exact nm_O36l | exact nm_V36d | exact nm_C36d | exact nm_X36d | (refine Nm.seg (m := 36) ?_ (by decide); assumption) | exact Nm.seg (m := 36) (Nm.F6 _) (by decide) | exact Nm.app3 (.F2 _) (.F2 _) (.F2 _) | exact nm_k (.F2 _) | (refine nm_k ?_; assumption) | exact nm_X12 | fail))⟩) ?_
    | refine wpTake_cons (Steady.of_yields (Or.inl ⟨by rfl, fun w => (by first | (go_simp; done) | (go_simp; with_reducible rfl))⟩)) ?_); simp only [List.getElem_toArray, List.getElem_cons_zero, List.getElem_cons_succ, Act.put, List.setIfInBounds_toArray, List.set_cons_zero, List.set_cons_succ])
  refine wpTake_nil ?_
  refine tail_new (i := 10) (j := 11) (by rfl) (by rfl) (by kernel_rfl) (by kernel_rfl) (by kernel_rfl) (by rfl) 28 8 (by rfl) (by rfl) (by rfl) (.tmp 8) (.tmp 25) (by rfl) (by rfl) _ (vals .u64 Fp6.Z36) (fun _ => by rfl) (fun _ => by rfl) (by exact ⟨_, _, rfl, rfl, by kernel_rfl⟩) (by rw [vals_size, nT.len]; kernel_rfl) (by rw [vals_size, vals_size, nT.len]; rfl) vals_one ?_
  intro w7 gu3 hgu3 qu37 hbt
  simp only [List.getElem_toArray, List.getElem_cons_zero, List.getElem_cons_succ, Act.put, List.setIfInBounds_toArray, List.set_cons_zero, List.set_cons_succ]
  have qa7 := qa6.keep hbt
  have Nau3 := Nat.lt_of_lt_of_le qa6.lt hgu3
  have qk7 := qk6.keep hbt
  have Nku3 := Nat.lt_of_lt_of_le qk6.lt hgu3
  have qu17 := qu16.keep hbt
  have Nu1u3 := Nat.lt_of_lt_of_le qu16.lt hgu3
  have qu27 := qu26.keep hbt
  have Nu2u3 := Nat.lt_of_lt_of_le qu26.lt hgu3
  have hb7 := hb6.trans (hbt.mono (HSS.out _ hb6))
  have Mu3 : S ≤ gu3 := Nat.le_trans (HSS.out _ hb6) hgu3
  clear hbt hgu3 hb6 qa6 qk6 qu16 qu26
  go_wp2_with (first
    | (refine store_abs2 (by rfl) 26 (.tmp 9) (.tmp 28) (by rfl) (by rfl) (w7.heap.size) (vals .u64 [1, 0, 0, 0, 0, 0, 1, 0, 0, 0, 0, 0]) (by rfl) (by rfl) 26 (vals .u64 Fp2.Z12) (Has.new' _ rfl _ _) (by rw [vals_size, LX.out]; kernel_rfl) (by first | (rw [vals_size, vals_size, LX.out]; rfl) | rfl) vals_one ?_
       intro w8 qu48 hkeep hbg
       have hbe := ((Below.refl w7.heap.size w7).alloc (Nat.le_refl _) (.cells (vals .u64 Fp2.Z12) 26)).trans hbg
       have Nau4 := qa7.lt
       have qa8 := qa7.keep hbe
       have Nku4 := qk7.lt
       have qk8 := qk7.keep hbe
       have Nu1u4 := qu17.lt
       have qu18 := qu17.keep hbe
       have Nu2u4 := qu27.lt
       have qu28 := qu27.keep hbe
       have Nu3u4 := qu37.lt
       have qu38 := qu37.keep hbe
       have Mu4 : S ≤ w7.heap.size := HSS.out _ hb7
       have hb8 := hb7.trans (hbe.mono (HSS.out _ hb7))
       clear hkeep hbg hbe hb7 qa7 qk7 qu17 qu27 qu37)
    | (refine wpList_buildTo (by rfl) 26 #[(0, .tmp 26), (1, .tmp 27)] (by rfl) (some 28) (by rfl) (vals .u64 [1, 0, 0, 0, 0, 0, 1, 0, 0, 0, 0, 0]) (by kernel_rfl) ?_)
    | (refine wpList_buildTo (by rfl) 24 #[(0, .const (.int .u64 1))] (by rfl) (some 27) (by rfl) (vals .u64 [1, 0, 0, 0, 0, 0]) (by kernel_rfl) ?_)
    | (refine wpList_buildTo (by rfl) 24 #[(0, .const (.int .u64 1))] (by rfl) (some 26) (by rfl) (vals .u64 [1, 0, 0, 0, 0, 0]) (by kernel_rfl) ?_))
  refine wp_reads 24 0 w8.heap.size (by kernel_rfl) (by kernel_rfl) (by rfl) (by kernel_rfl) (fun _ _ d _ _ h => by cases d <;> exact h) ?_
  simp only [List.take_succ_cons, List.take_zero]
  repeat ((first
    | refine take_eql_t (by rfl) (by rfl) (by rfl) (by rfl) eqokh gdh (Nm.len (n := 36) (by with_reducible first | exact Nm.F2 _ | exact Nm.F6 _ | assumption | exact nm_N36d | exact nm_Z36 | exact nm_O36l | exact nm_V36d | exact nm_C36d | exact nm_X36d | (refine Nm.seg (m := 36) ?_ (by decide); assumption) | exact Nm.seg (m := 36) (Nm.F6 _) (by decide) | exact Nm.app3 (.F2 _) (.F2 _) (.F2 _) | exact nm_k (.F2 _) | (refine nm_k ?_; assumption) | exact nm_X12 | fail)) (Nm.len (n := 36) (by with_reducible first | exact Nm.F2 _ | exact Nm.F6 _ | assumption | exact nm_N36d | exact nm_Z36 | exact nm_O36l | exact nm_V36d | exact nm_C36d | exact nm_X36d | (refine Nm.seg (m := 36) ?_ (by decide); assumption) | exact Nm.seg (m := 36) (Nm.F6 _) (by decide) | exact Nm.app3 (.F2 _) (.F2 _) (.F2 _) | exact nm_k (.F2 _) | (refine nm_k ?_; assumption) | exact nm_X12 | fail)) (by with_reducible first | rfl | exact HT.out | exact tu2 a | exact tu3 a hk) ?_
    | refine take_load (by rfl) 26 (by rfl) (g := S) (n := 12) (by rfl) (t := 28) (xs := a) (fun w hw => hw.has qa8 (Nat.ne_of_lt qa8.lt)) Tryd.underlying26 rfl (by kernel_rfl) (by rw [ha.len]; decide) ?_
    | refine take_loadw (by rfl) 28 (by rfl) (g := S) (n := 36) (by rfl) (t := 28) (xs := a) (fun w hw => hw.has qa8 (Nat.ne_of_lt qa8.lt)) Tryd.underlying28 rfl (by kernel_rfl) ha.len ?_
    | refine take_loadw (by rfl) 26 (by rfl) (g := S + 1) (n := 12) (by rfl) (t := 26) (xs := k) (fun w hw => hw.has qk8 (Nat.ne_of_lt qk8.lt)) Tryd.underlying26 rfl (by kernel_rfl) hk.len ?_
    | refine take_load (by rfl) 26 (by rfl) (g := w2.heap.size) (n := 12) (by rfl) (t := 28) (xs := (F6 (hv (v6 a)))) (fun w hw => hw.has qu18 (Nat.ne_of_lt qu18.lt)) Tryd.underlying26 rfl (by kernel_rfl) (by rw [(Nm.F6 _).len]; decide) ?_
    | refine take_loadw (by rfl) 28 (by rfl) (g := w2.heap.size) (n := 36) (by rfl) (t := 28) (xs := (F6 (hv (v6 a)))) (fun w hw => hw.has qu18 (Nat.ne_of_lt qu18.lt)) Tryd.underlying28 rfl (by kernel_rfl) (Nm.F6 _).len ?_
    | refine take_load (by rfl) 26 (by rfl) (g := w5.heap.size) (n := 12) (by rfl) (t := 28) (xs := (F6 (hv (v6 (F6 (hv (v6 (F6 (hv (v6 a)))))))))) (fun w hw => hw.has qu28 (Nat.ne_of_lt qu28.lt)) Tryd.underlying26 rfl (by kernel_rfl) (by rw [(Nm.F6 _).len]; decide) ?_
    | refine take_loadw (by rfl) 28 (by rfl) (g := w5.heap.size) (n := 36) (by rfl) (t := 28) (xs := (F6 (hv (v6 (F6 (hv (v6 (F6 (hv (v6 a)))))))))) (fun w hw => hw.has qu28 (Nat.ne_of_lt qu28.lt)) Tryd.underlying28 rfl (by kernel_rfl) (Nm.F6 _).len ?_
    | refine take_load (by rfl) 26 (by rfl) (g := gu3) (n := 12) (by rfl) (t := 28) (xs := T0) (fun w hw => hw.has qu38 (Nat.ne_of_lt qu38.lt)) Tryd.underlying26 rfl (by kernel_rfl) (by rw [nT.len]; decide) ?_
    | refine take_loadw (by rfl) 28 (by rfl) (g := gu3) (n := 36) (by rfl) (t := 28) (xs := T0) (fun w hw => hw.has qu38 (Nat.ne_of_lt qu38.lt)) Tryd.underlying28 rfl (by kernel_rfl) nT.len ?_
    | refine take_loadw (by rfl) 26 (by rfl) (g := w7.heap.size) (n := 12) (by rfl) (t := 26) (xs := [1, 0, 0, 0, 0, 0, 1, 0, 0, 0, 0, 0]) (fun w hw => hw.has qu48 (Nat.ne_of_lt qu48.lt)) Tryd.underlying26 rfl (by kernel_rfl) LX.out ?_
    | refine take_build (by rfl) (by rfl) (by refine build6a ?_ <;> (with_reducible first | exact Nm.F2 _ | exact Nm.F6 _ | assumption | exact nm_N36d | exact nm_Z36 | exact nm_O36l | exact nm_V36d | exact nm_C36d | exact nm_X36d | (refine Nm.seg (m := 36) ?_ (by decide); assumption) | exact Nm.seg (m := 36) (Nm.F6 _) (by decide) | exact Nm.app3 (.F2 _) (.F2 _) (.F2 _) | exact nm_k (.F2 _) | (refine nm_k ?_; assumption) | exact nm_X12 | fail)) ?_
    | refine wpTake_cons (.inl ⟨by rfl, fun w hw => (by unfold Oper.quietAt; go_simp; (first | with_reducible refine lRed6 _ ?_ _ (HG.out _ (hb8.trans (hw.below (HSS.out _ hb8) (HSS.out _ hb8)))) | with_reducible refine lAdd6 _ ?_ _ ?_ _ (HG.out _ (hb8.trans (hw.below (HSS.out _ hb8) (HSS.out _ hb8)))) | with_reducible refine lSub6 _ ?_ _ ?_ _ (HG.out _ (hb8.trans (hw.below (HSS.out _ hb8) (HSS.out _ hb8)))) | with_reducible refine lNeg6 _ ?_ _ (HG.out _ (hb8.trans (hw.below (HSS.out _ hb8) (HSS.out _ hb8)))) | with_reducible refine lMul6 _ ?_ _ ?_ _ (HG.out _ (hb8.trans (hw.below (HSS.out _ hb8) (HSS.out _ hb8)))) | with_reducible refine lInv6 _ ?_ _ (HD.out _ (hb8.trans (hw.below (HSS.out _ hb8) (HSS.out _ hb8)))) | with_reducible refine lScale6 _ ?_ _ ?_ _ (HG.out _ (hb8.trans (hw.below (HSS.out _ hb8) (HSS.out _ hb8)))) | with_reducible refine lV6 _ ?_ _ (HG.out _ (hb8.trans (hw.below (HSS.out _ hb8) (HSS.out _ hb8))))) <;> (with_reducible first | exact Nm.F2 _ | exact Nm.F6 _ | assumption | exact nm_N36d | exact nm_Z36 | exact nm_O36l | exact nm_V36d | exact nm_C36d | exact nm_X36d | (refine Nm.seg (m := 36) ?_ (by decide); assumption) | exact Nm.seg (m := 36) (Nm.F6 _) (by decide) | exact Nm.app3 (.F2 _) (.F2 _) (.F2 _) | exact nm_k (.F2 _) | (refine nm_k ?_; assumption) | exact nm_X12 | fail))⟩) ?_
    | refine wpTake_cons (Steady.of_yields (Or.inl ⟨by rfl, fun w => (by first | (go_simp; done) | (go_simp; with_reducible rfl))⟩)) ?_); simp only [List.getElem_toArray, List.getElem_cons_zero, List.getElem_cons_succ, Act.put, List.setIfInBounds_toArray, List.set_cons_zero, List.set_cons_succ])
  refine wpTake_nil ?_
  refine wpAnyU_end (by kernel_rfl) (fun w9 hq0 => ?_)
  have hq := (drawn_below w8).trans hq0
  have qa9 := qa8.keep hq
  have qk9 := qk8.keep hq
  have qu19 := qu18.keep hq
  have qu29 := qu28.keep hq
  have qu39 := qu38.keep hq
  have qu49 := qu48.keep hq
  have hb9 := hb8.trans (hq.mono (HSS.out _ hb8))
  clear hq0 hq hb8 qa8 qk8 qu18 qu28 qu38 qu48
  go_wp2
  go_ret
  exact ⟨rfl, hb9⟩

set_option maxRecDepth 100000 in
set_option maxHeartbeats 4000000 in
theorem within_w (a : List Int) (ha : Nm 12 a) (b : List Int) (hb : Nm 12 b) (w : World) (hG : GlobD w) : Calls Tryd.prog 8 #[.agg (vals .u64 a), .agg (vals .u64 b)] w fun e w' => e = .returned (.bool true) ∧ Below w.heap.size w w' := by
  have La : Keep ((a ++ N24).length = 36) := ⟨(nm_k ha).len⟩
  have Lb : Keep ((b ++ N24).length = 36) := ⟨(nm_k hb).len⟩
  obtain ⟨S, hS⟩ : ∃ S, w.heap.size = S := ⟨_, rfl⟩
  have qa0 : Has ((w.alloc (.cells (vals .u64 a) 26)).alloc (.cells (vals .u64 b) 26)) (S) 26 (vals .u64 a) := ((Has.new' _ hS.symm _ _).alloc _)
  have qb0 : Has ((w.alloc (.cells (vals .u64 a) 26)).alloc (.cells (vals .u64 b) 26)) (S + 1) 26 (vals .u64 b) := (Has.new' _ (by simp only [World.size_alloc, hS]) _ _)
  have hb0 : Below S w ((w.alloc (.cells (vals .u64 a) 26)).alloc (.cells (vals .u64 b) 26)) := by rw [← hS]; exact (((Below.refl _ _).alloc (Nat.le_refl _) _).alloc (by simp <;> omega) _)
  have hsz0 : ((w.alloc (.cells (vals .u64 a) 26)).alloc (.cells (vals .u64 b) 26)).heap.size = S + 2 := by simp only [World.size_alloc, hS]
  have HSS : Keep (∀ x : World, Below S w x → S ≤ x.heap.size) := ⟨fun x hb => Nat.le_trans (by omega) hb.size⟩
  have HD : Keep (∀ x : World, Below S w x → GlobD x) := ⟨fun x hb => hG.keep (by rw [hS]; exact hb)⟩
  have HG : Keep (∀ x : World, Below S w x → Glob x) := ⟨fun x hb => (HD.out x hb).toGlob⟩
  clear hG
  rw [hS]
  go_enter Tryd.func8, Tryd.ntmps8
  go_wp2_with (first
    | (refine store_abs2 (by rfl) 28 (.tmp 7) (.tmp 12) (by rfl) (by rfl) (w2.heap.size) (vals .u64 (b ++ N24)) (by rfl) (by rfl) 28 (vals .u64 Fp6.Z36) (Has.new' _ rfl _ _) (by rw [vals_size, Lb.out]; kernel_rfl) (by first | (rw [vals_size, vals_size, Lb.out]; rfl) | rfl) vals_one ?_
       intro w3 qub3 hkeep hbg
       have hbe := ((Below.refl w2.heap.size w2).alloc (Nat.le_refl _) (.cells (vals .u64 Fp6.Z36) 28)).trans hbg
       have Naub := qa2.lt
       have qa3 := qa2.keep hbe
       have Nbub := qb2.lt
       have qb3 := qb2.keep hbe
       have Nuaub := qua2.lt
       have qua3 := qua2.keep hbe
       have Mub : S ≤ w2.heap.size := HSS.out _ hb2
       have hb3 := hb2.trans (hbe.mono (HSS.out _ hb2))
       clear hkeep hbg hbe hb2 qa2 qb2 qua2)
    | (refine wpList_buildTo (by rfl) 28 #[(0, .tmp 11)] (by rfl) (some 12) (by rfl) _ (by rw [Array.toList_map]; exact build6a hb) ?_)
    | (refine wpList_load_row rfl 26 (.tmp 3) rfl (S + 1) rfl _ _ _ _ qb2.eq Tryd.underlying26 rfl (by rw [vals_size, hb.len]; kernel_rfl) ?_)
    | (refine store_abs2 (by rfl) 28 (.tmp 6) (.tmp 10) (by rfl) (by rfl) (w1.heap.size) (vals .u64 (a ++ N24)) (by rfl) (by rfl) 28 (vals .u64 Fp6.Z36) (Has.new' _ rfl _ _) (by rw [vals_size, La.out]; kernel_rfl) (by first | (rw [vals_size, vals_size, La.out]; rfl) | rfl) vals_one ?_
       intro w2 qua2 hkeep hbg
       have hbe := ((Below.refl w1.heap.size w1).alloc (Nat.le_refl _) (.cells (vals .u64 Fp6.Z36) 28)).trans hbg
       have Naua := qa1.lt
       have qa2 := qa1.keep hbe
       have Nbua := qb1.lt
       have qb2 := qb1.keep hbe
       have Mua : S ≤ w1.heap.size := HSS.out _ hb1
       have hb2 := hb1.trans (hbe.mono (HSS.out _ hb1))
       clear hkeep hbg hbe hb1 qa1 qb1)
    | (refine wpList_buildTo (by rfl) 28 #[(0, .tmp 9)] (by rfl) (some 10) (by rfl) _ (by rw [Array.toList_map]; exact build6a ha) ?_)
    | (refine wpList_load_row rfl 26 (.tmp 2) rfl (S) rfl _ _ _ _ qa1.eq Tryd.underlying26 rfl (by rw [vals_size, ha.len]; kernel_rfl) ?_)
    | (have hq0 := hb0
       clear hq0
       go_at_call 9
       refine (awake_c _ (HD.out _ hb0)).mono ?_
       rintro e w1 ⟨rfl, hq⟩
       have qa1 := qa0.keep hq
       have qb1 := qb0.keep hq
       have hb1 := hb0.trans (hq.mono (HSS.out _ hb0))
       clear hq hb0 qa0 qb0))
  refine wp_reads 38 0 w3.heap.size (by kernel_rfl) (by kernel_rfl) (by rfl) (by kernel_rfl) (fun _ _ d _ _ h => by cases d <;> exact h) ?_
  simp only [List.take_succ_cons, List.take_zero]
  repeat ((first
    | refine take_eql_t (by rfl) (by rfl) (by rfl) (by rfl) eqokh gdh (Nm.len (n := 36) (by with_reducible first | exact Nm.F2 _ | exact Nm.F6 _ | assumption | exact nm_N36d | exact nm_Z36 | exact nm_O36l | exact nm_V36d | exact nm_C36d | exact nm_X36d | (refine Nm.seg (m := 36) ?_ (by decide); assumption) | exact Nm.seg (m := 36) (Nm.F6 _) (by decide) | exact Nm.app3 (.F2 _) (.F2 _) (.F2 _) | exact nm_k (.F2 _) | (refine nm_k ?_; assumption) | fail)) (Nm.len (n := 36) (by with_reducible first | exact Nm.F2 _ | exact Nm.F6 _ | assumption | exact nm_N36d | exact nm_Z36 | exact nm_O36l | exact nm_V36d | exact nm_C36d | exact nm_X36d | (refine Nm.seg (m := 36) ?_ (by decide); assumption) | exact Nm.seg (m := 36) (Nm.F6 _) (by decide) | exact Nm.app3 (.F2 _) (.F2 _) (.F2 _) | exact nm_k (.F2 _) | (refine nm_k ?_; assumption) | fail)) (by with_reducible first | rfl | exact wi1 ha hb | exact wi2 ha hb | exact wi3 ha | exact wi4 ha) ?_
    | refine take_loadw (by rfl) 26 (by rfl) (g := S) (n := 12) (by rfl) (t := 26) (xs := a) (fun w hw => hw.has qa3 (Nat.ne_of_lt qa3.lt)) Tryd.underlying26 rfl (by kernel_rfl) ha.len ?_
    | refine take_loadw (by rfl) 26 (by rfl) (g := S + 1) (n := 12) (by rfl) (t := 26) (xs := b) (fun w hw => hw.has qb3 (Nat.ne_of_lt qb3.lt)) Tryd.underlying26 rfl (by kernel_rfl) hb.len ?_
    | refine take_load (by rfl) 26 (by rfl) (g := w1.heap.size) (n := 12) (by rfl) (t := 28) (xs := (a ++ N24)) (fun w hw => hw.has qua3 (Nat.ne_of_lt qua3.lt)) Tryd.underlying26 rfl (by kernel_rfl) (by rw [La.out]; decide) ?_
    | refine take_loadw (by rfl) 28 (by rfl) (g := w1.heap.size) (n := 36) (by rfl) (t := 28) (xs := (a ++ N24)) (fun w hw => hw.has qua3 (Nat.ne_of_lt qua3.lt)) Tryd.underlying28 rfl (by kernel_rfl) La.out ?_
    | refine take_load (by rfl) 26 (by rfl) (g := w2.heap.size) (n := 12) (by rfl) (t := 28) (xs := (b ++ N24)) (fun w hw => hw.has qub3 (Nat.ne_of_lt qub3.lt)) Tryd.underlying26 rfl (by kernel_rfl) (by rw [Lb.out]; decide) ?_
    | refine take_loadw (by rfl) 28 (by rfl) (g := w2.heap.size) (n := 36) (by rfl) (t := 28) (xs := (b ++ N24)) (fun w hw => hw.has qub3 (Nat.ne_of_lt qub3.lt)) Tryd.underlying28 rfl (by kernel_rfl) Lb.out ?_
    | refine take_build (by rfl) (by rfl) (by refine build6a ?_ <;> (with_reducible first | exact Nm.F2 _ | exact Nm.F6 _ | assumption | exact nm_N36d | exact nm_Z36 | exact nm_O36l | exact nm_V36d | exact nm_C36d | exact nm_X36d | (refine Nm.seg (m := 36) ?_ (by decide); assumption) | exact Nm.seg (m := 36) (Nm.F6 _) (by decide) | exact Nm.app3 (.F2 _) (.F2 _) (.F2 _) | exact nm_k (.F2 _) | (refine nm_k ?_; assumption) | fail)) ?_
    | refine wpTake_cons (.inl ⟨by rfl, fun w hw => (by unfold Oper.quietAt; go_simp; (first | with_reducible refine lRed6 _ ?_ _ (HG.out _ (hb3.trans (hw.below (HSS.out _ hb3) (HSS.out _ hb3)))) | with_reducible refine lAdd6 _ ?_ _ ?_ _ (HG.out _ (hb3.trans (hw.below (HSS.out _ hb3) (HSS.out _ hb3)))) | with_reducible refine lSub6 _ ?_ _ ?_ _ (HG.out _ (hb3.trans (hw.below (HSS.out _ hb3) (HSS.out _ hb3)))) | with_reducible refine lNeg6 _ ?_ _ (HG.out _ (hb3.trans (hw.below (HSS.out _ hb3) (HSS.out _ hb3)))) | with_reducible refine lMul6 _ ?_ _ ?_ _ (HG.out _ (hb3.trans (hw.below (HSS.out _ hb3) (HSS.out _ hb3)))) | with_reducible refine lInv6 _ ?_ _ (HD.out _ (hb3.trans (hw.below (HSS.out _ hb3) (HSS.out _ hb3)))) | with_reducible refine lScale6 _ ?_ _ ?_ _ (HG.out _ (hb3.trans (hw.below (HSS.out _ hb3) (HSS.out _ hb3)))) | with_reducible refine lV6 _ ?_ _ (HG.out _ (hb3.trans (hw.below (HSS.out _ hb3) (HSS.out _ hb3)))) | with_reducible refine lRed2 _ ?_ _ (HG.out _ (hb3.trans (hw.below (HSS.out _ hb3) (HSS.out _ hb3)))) | with_reducible refine lAdd2 _ ?_ _ ?_ _ (HG.out _ (hb3.trans (hw.below (HSS.out _ hb3) (HSS.out _ hb3)))) | with_reducible refine lMul2 _ ?_ _ ?_ _ (HG.out _ (hb3.trans (hw.below (HSS.out _ hb3) (HSS.out _ hb3)))) | with_reducible refine lNeg2 _ ?_ _ (HG.out _ (hb3.trans (hw.below (HSS.out _ hb3) (HSS.out _ hb3)))) | with_reducible refine lXi2 _ ?_ _ (HG.out _ (hb3.trans (hw.below (HSS.out _ hb3) (HSS.out _ hb3)))) | with_reducible refine lInv2 _ ?_ _ (HD.out _ (hb3.trans (hw.below (HSS.out _ hb3) (HSS.out _ hb3))))) <;> (with_reducible first | exact Nm.F2 _ | exact Nm.F6 _ | assumption | exact nm_N36d | exact nm_Z36 | exact nm_O36l | exact nm_V36d | exact nm_C36d | exact nm_X36d | (refine Nm.seg (m := 36) ?_ (by decide); assumption) | exact Nm.seg (m := 36) (Nm.F6 _) (by decide) | exact Nm.app3 (.F2 _) (.F2 _) (.F2 _) | exact nm_k (.F2 _) | (refine nm_k ?_; assumption) | fail))⟩) ?_
    | refine wpTake_cons (Steady.of_yields (Or.inl ⟨by rfl, fun w => (by first | (go_simp; done) | (go_simp; with_reducible rfl))⟩)) ?_); simp only [List.getElem_toArray, List.getElem_cons_zero, List.getElem_cons_succ, Act.put, List.setIfInBounds_toArray, List.set_cons_zero, List.set_cons_succ])
  refine wpTake_nil ?_
  refine wpAnyU_end (by kernel_rfl) (fun w4 hq0 => ?_)
  have hq := (drawn_below w3).trans hq0
  have qa4 := qa3.keep hq
  have qb4 := qb3.keep hq
  have qua4 := qua3.keep hq
  have qub4 := qub3.keep hq
  have hb4 := hb3.trans (hq.mono (HSS.out _ hb3))
  clear hq0 hq hb3 qa3 qb3 qua3 qub3
  go_wp2
  go_ret
  exact ⟨rfl, hb4⟩

end Go.Proofs.YtpkbbdhpdplkeaaDoor.Fp6
