/-
  Own text. The contracts of layer 8's reference: signs, roots.
-/
import Derived.Test.YtoogmgckbalboaaDoorFp2rRef0
import Derived.Test.YtoogmgckbalboaaDoorRegG
namespace Go.Proofs.YtoogmgckbalboaaDoor.Fp2r
set_option linter.unusedVariables false
set_option linter.unusedSimpArgs false
open Go Go.RowKit Go.Proofs.YtoogmgckbalboaaDoor.Reg Go.Proofs.YtoogmgckbalboaaDoor.Base Go.Proofs.YtoogmgckbalboaaDoor.Limb Go.Proofs.YtoogmgckbalboaaDoor.Fp Go.Proofs.YtoogmgckbalboaaDoor.Fpr Go.Proofs.YtoogmgckbalboaaDoor.Fp2 Go.Proofs.YtoogmgckbalboaaDoor.Bits

set_option maxRecDepth 100000 in
set_option maxHeartbeats 4000000 in
theorem rSg_z (a : List Int) (ha : Nm 12 a) (h : (v2 a).1 % PP = 0) (w : World) : Calls Tryd.prog 13 #[.agg (vals .u64 a)] w fun e w' => e = .returned (.int .i64 (sg2 (v2 a))) ∧ Below w.heap.size w w' := by
  have E1 := eqn6' (Fp.fe (num (seg 0 6 a))) Z6 (fe_len _) rfl
  rw [decide_eq_true ((Z6_iff6 (num (seg 0 6 a))).2 h)] at E1
  have hv : sg2 (v2 a) = sgn (num (seg 6 6 a)) := by
    unfold sg2
    rw [if_pos h]
    rfl
  rw [hv]
  obtain ⟨x, hx⟩ : ∃ x, Fp.fe (num (seg 0 6 a)) = x := ⟨_, rfl⟩
  obtain ⟨y, hy⟩ : ∃ y, sgn (num (seg 6 6 a)) = y := ⟨_, rfl⟩
  have P1 : Keep (∀ x : World, _) := ⟨fun x => rRed (ha.seg (n := 6) (off := 0) (by decide)) x⟩
  have P2 : Keep (∀ x : World, _) := ⟨fun x => refSign_c (seg 6 6 a) (ha.seg (n := 6) (off := 6) (by decide)).len (ha.seg (n := 6) (off := 6) (by decide)).words x⟩
  rw [hx] at E1 P1
  rw [hy] at P2 ⊢
  have hgd := gd6
  clear h hv hx hy
  obtain ⟨S, hS⟩ : ∃ S, w.heap.size = S := ⟨_, rfl⟩
  have qa0 : Has (w.alloc (.cells (vals .u64 a) 26)) (S) 26 (vals .u64 a) := (Has.new' _ hS.symm _ _)
  have hb0 : Below S w (w.alloc (.cells (vals .u64 a) 26)) := by rw [← hS]; exact ((Below.refl _ _).alloc (Nat.le_refl _) _)
  have hsz0 : (w.alloc (.cells (vals .u64 a) 26)).heap.size = S + 1 := by simp only [World.size_alloc, hS]
  have HSS : Keep (∀ x : World, Below S w x → S ≤ x.heap.size) := ⟨fun x hb => Nat.le_trans (by omega) hb.size⟩
  rw [hS]
  go_enter Tryd.func13, Tryd.ntmps13
  go_wp2_with (first
    | (have hq0 := hb1
       clear hq0
       go_at_call 38
       refine (P2.out _).mono ?_
       rintro e w2 ⟨rfl, hq⟩
       have qa2 := qa1.keep hq
       have hb2 := hb1.trans (hq.mono (HSS.out _ hb1))
       clear hq hb1 qa1)
    | (refine load_seg (by rfl) 24 (.tmp 8) (by rfl) (S) 6 6 (by rfl) 26 .u64 a (seg 6 6 a) _ qa1 Tryd.underlying24 rfl (by kernel_rfl) rfl (by rw [ha.len]; decide) ?_)
    | (refine wpList_buildTo (by rfl) 24 #[] (by rfl) (some 6) (by rfl) (vals .u64 Z6) (by kernel_rfl) ?_)
    | (have hq0 := hb0
       clear hq0
       go_at_call 37
       refine (P1.out _).mono ?_
       rintro e w1 ⟨rfl, hq⟩
       have qa1 := qa0.keep hq
       have hb1 := hb0.trans (hq.mono (HSS.out _ hb0))
       clear hq hb0 qa0)
    | (refine load_seg (by rfl) 24 (.tmp 3) (by rfl) (S) 0 6 (by rfl) 26 .u64 a (seg 0 6 a) _ qa0 Tryd.underlying24 rfl (by kernel_rfl) rfl (by rw [ha.len]; decide) ?_))
  go_ret
  exact ⟨rfl, hb2⟩

set_option maxRecDepth 100000 in
set_option maxHeartbeats 4000000 in
theorem rSg_n (a : List Int) (ha : Nm 12 a) (h : ¬ (v2 a).1 % PP = 0) (w : World) : Calls Tryd.prog 13 #[.agg (vals .u64 a)] w fun e w' => e = .returned (.int .i64 (sg2 (v2 a))) ∧ Below w.heap.size w w' := by
  have E1 := eqn6' (Fp.fe (num (seg 0 6 a))) Z6 (fe_len _) rfl
  rw [decide_eq_false (fun e => h ((Z6_iff6 (num (seg 0 6 a))).1 e))] at E1
  have hv : sg2 (v2 a) = sgn (num (seg 0 6 a)) := by
    unfold sg2
    rw [if_neg h]
    rfl
  rw [hv]
  obtain ⟨x, hx⟩ : ∃ x, Fp.fe (num (seg 0 6 a)) = x := ⟨_, rfl⟩
  obtain ⟨y, hy⟩ : ∃ y, sgn (num (seg 0 6 a)) = y := ⟨_, rfl⟩
  have P1 : Keep (∀ x : World, _) := ⟨fun x => rRed (ha.seg (n := 6) (off := 0) (by decide)) x⟩
  have P2 : Keep (∀ x : World, _) := ⟨fun x => refSign_c (seg 0 6 a) (ha.seg (n := 6) (off := 0) (by decide)).len (ha.seg (n := 6) (off := 0) (by decide)).words x⟩
  rw [hx] at E1 P1
  rw [hy] at P2 ⊢
  have hgd := gd6
  clear h hv hx hy
  obtain ⟨S, hS⟩ : ∃ S, w.heap.size = S := ⟨_, rfl⟩
  have qa0 : Has (w.alloc (.cells (vals .u64 a) 26)) (S) 26 (vals .u64 a) := (Has.new' _ hS.symm _ _)
  have hb0 : Below S w (w.alloc (.cells (vals .u64 a) 26)) := by rw [← hS]; exact ((Below.refl _ _).alloc (Nat.le_refl _) _)
  have hsz0 : (w.alloc (.cells (vals .u64 a) 26)).heap.size = S + 1 := by simp only [World.size_alloc, hS]
  have HSS : Keep (∀ x : World, Below S w x → S ≤ x.heap.size) := ⟨fun x hb => Nat.le_trans (by omega) hb.size⟩
  rw [hS]
  go_enter Tryd.func13, Tryd.ntmps13
  go_wp2_with (first
    | (have hq0 := hb1
       clear hq0
       go_at_call 38
       refine (P2.out _).mono ?_
       rintro e w2 ⟨rfl, hq⟩
       have qa2 := qa1.keep hq
       have hb2 := hb1.trans (hq.mono (HSS.out _ hb1))
       clear hq hb1 qa1)
    | (refine load_seg (by rfl) 24 (.tmp 11) (by rfl) (S) 0 6 (by rfl) 26 .u64 a (seg 0 6 a) _ qa1 Tryd.underlying24 rfl (by kernel_rfl) rfl (by rw [ha.len]; decide) ?_)
    | (refine wpList_buildTo (by rfl) 24 #[] (by rfl) (some 6) (by rfl) (vals .u64 Z6) (by kernel_rfl) ?_)
    | (have hq0 := hb0
       clear hq0
       go_at_call 37
       refine (P1.out _).mono ?_
       rintro e w1 ⟨rfl, hq⟩
       have qa1 := qa0.keep hq
       have hb1 := hb0.trans (hq.mono (HSS.out _ hb0))
       clear hq hb0 qa0)
    | (refine load_seg (by rfl) 24 (.tmp 3) (by rfl) (S) 0 6 (by rfl) 26 .u64 a (seg 0 6 a) _ qa0 Tryd.underlying24 rfl (by kernel_rfl) rfl (by rw [ha.len]; decide) ?_))
  go_ret
  exact ⟨rfl, hb2⟩

set_option maxRecDepth 100000 in
set_option maxHeartbeats 4000000 in
theorem rSg (a : List Int) (ha : Nm 12 a) (w : World) : Calls Tryd.prog 13 #[.agg (vals .u64 a)] w fun e w' => e = .returned (.int .i64 (sg2 (v2 a))) ∧ Below w.heap.size w w' := by
  by_cases h : (v2 a).1 % PP = 0
  · exact rSg_z a ha h w
  · exact rSg_n a ha h w

set_option maxRecDepth 100000 in
set_option maxHeartbeats 4000000 in
theorem rBg_z (a : List Int) (ha : Nm 12 a) (h : (v2 a).2 % PP = 0) (w : World) : Calls Tryd.prog 15 #[.agg (vals .u64 a)] w fun e w' => e = .returned (.bool (big2 (v2 a))) ∧ Below w.heap.size w w' := by
  have E1 := eqn6' (Fp.fe (num (seg 6 6 a))) Z6 (fe_len _) rfl
  rw [decide_eq_true ((Z6_iff6 (num (seg 6 6 a))).2 h)] at E1
  have hv : big2 (v2 a) = big (num (seg 0 6 a)) := by
    unfold big2
    rw [if_pos h]
    rfl
  rw [hv]
  obtain ⟨x, hx⟩ : ∃ x, Fp.fe (num (seg 6 6 a)) = x := ⟨_, rfl⟩
  obtain ⟨y, hy⟩ : ∃ y, big (num (seg 0 6 a)) = y := ⟨_, rfl⟩
  have P1 : Keep (∀ x : World, _) := ⟨fun x => rRed (ha.seg (n := 6) (off := 6) (by decide)) x⟩
  have P2 : Keep (∀ x : World, _) := ⟨fun x => refBigger_c (seg 0 6 a) (ha.seg (n := 6) (off := 0) (by decide)).len (ha.seg (n := 6) (off := 0) (by decide)).words x⟩
  rw [hx] at E1 P1
  rw [hy] at P2 ⊢
  have hgd := gd6
  clear h hv hx hy
  obtain ⟨S, hS⟩ : ∃ S, w.heap.size = S := ⟨_, rfl⟩
  have qa0 : Has (w.alloc (.cells (vals .u64 a) 26)) (S) 26 (vals .u64 a) := (Has.new' _ hS.symm _ _)
  have hb0 : Below S w (w.alloc (.cells (vals .u64 a) 26)) := by rw [← hS]; exact ((Below.refl _ _).alloc (Nat.le_refl _) _)
  have hsz0 : (w.alloc (.cells (vals .u64 a) 26)).heap.size = S + 1 := by simp only [World.size_alloc, hS]
  have HSS : Keep (∀ x : World, Below S w x → S ≤ x.heap.size) := ⟨fun x hb => Nat.le_trans (by omega) hb.size⟩
  rw [hS]
  go_enter Tryd.func15, Tryd.ntmps15
  go_wp2_with (first
    | (have hq0 := hb1
       clear hq0
       go_at_call 40
       refine (P2.out _).mono ?_
       rintro e w2 ⟨rfl, hq⟩
       have qa2 := qa1.keep hq
       have hb2 := hb1.trans (hq.mono (HSS.out _ hb1))
       clear hq hb1 qa1)
    | (refine load_seg (by rfl) 24 (.tmp 8) (by rfl) (S) 0 6 (by rfl) 26 .u64 a (seg 0 6 a) _ qa1 Tryd.underlying24 rfl (by kernel_rfl) rfl (by rw [ha.len]; decide) ?_)
    | (refine wpList_buildTo (by rfl) 24 #[] (by rfl) (some 6) (by rfl) (vals .u64 Z6) (by kernel_rfl) ?_)
    | (have hq0 := hb0
       clear hq0
       go_at_call 37
       refine (P1.out _).mono ?_
       rintro e w1 ⟨rfl, hq⟩
       have qa1 := qa0.keep hq
       have hb1 := hb0.trans (hq.mono (HSS.out _ hb0))
       clear hq hb0 qa0)
    | (refine load_seg (by rfl) 24 (.tmp 3) (by rfl) (S) 6 6 (by rfl) 26 .u64 a (seg 6 6 a) _ qa0 Tryd.underlying24 rfl (by kernel_rfl) rfl (by rw [ha.len]; decide) ?_))
  go_ret
  exact ⟨rfl, hb2⟩

set_option maxRecDepth 100000 in
set_option maxHeartbeats 4000000 in
theorem rBg_n (a : List Int) (ha : Nm 12 a) (h : ¬ (v2 a).2 % PP = 0) (w : World) : Calls Tryd.prog 15 #[.agg (vals .u64 a)] w fun e w' => e = .returned (.bool (big2 (v2 a))) ∧ Below w.heap.size w w' := by
  have E1 := eqn6' (Fp.fe (num (seg 6 6 a))) Z6 (fe_len _) rfl
  rw [decide_eq_false (fun e => h ((Z6_iff6 (num (seg 6 6 a))).1 e))] at E1
  have hv : big2 (v2 a) = big (num (seg 6 6 a)) := by
    unfold big2
    rw [if_neg h]
    rfl
  rw [hv]
  obtain ⟨x, hx⟩ : ∃ x, Fp.fe (num (seg 6 6 a)) = x := ⟨_, rfl⟩
  obtain ⟨y, hy⟩ : ∃ y, big (num (seg 6 6 a)) = y := ⟨_, rfl⟩
  have P1 : Keep (∀ x : World, _) := ⟨fun x => rRed (ha.seg (n := 6) (off := 6) (by decide)) x⟩
  have P2 : Keep (∀ x : World, _) := ⟨fun x => refBigger_c (seg 6 6 a) (ha.seg (n := 6) (off := 6) (by decide)).len (ha.seg (n := 6) (off := 6) (by decide)).words x⟩
  rw [hx] at E1 P1
  rw [hy] at P2 ⊢
  have hgd := gd6
  clear h hv hx hy
  obtain ⟨S, hS⟩ : ∃ S, w.heap.size = S := ⟨_, rfl⟩
  have qa0 : Has (w.alloc (.cells (vals .u64 a) 26)) (S) 26 (vals .u64 a) := (Has.new' _ hS.symm _ _)
  have hb0 : Below S w (w.alloc (.cells (vals .u64 a) 26)) := by rw [← hS]; exact ((Below.refl _ _).alloc (Nat.le_refl _) _)
  have hsz0 : (w.alloc (.cells (vals .u64 a) 26)).heap.size = S + 1 := by simp only [World.size_alloc, hS]
  have HSS : Keep (∀ x : World, Below S w x → S ≤ x.heap.size) := ⟨fun x hb => Nat.le_trans (by omega) hb.size⟩
  rw [hS]
  go_enter Tryd.func15, Tryd.ntmps15
  go_wp2_with (first
    | (have hq0 := hb1
       clear hq0
       go_at_call 40
       refine (P2.out _).mono ?_
       rintro e w2 ⟨rfl, hq⟩
       have qa2 := qa1.keep hq
       have hb2 := hb1.trans (hq.mono (HSS.out _ hb1))
       clear hq hb1 qa1)
    | (refine load_seg (by rfl) 24 (.tmp 11) (by rfl) (S) 6 6 (by rfl) 26 .u64 a (seg 6 6 a) _ qa1 Tryd.underlying24 rfl (by kernel_rfl) rfl (by rw [ha.len]; decide) ?_)
    | (refine wpList_buildTo (by rfl) 24 #[] (by rfl) (some 6) (by rfl) (vals .u64 Z6) (by kernel_rfl) ?_)
    | (have hq0 := hb0
       clear hq0
       go_at_call 37
       refine (P1.out _).mono ?_
       rintro e w1 ⟨rfl, hq⟩
       have qa1 := qa0.keep hq
       have hb1 := hb0.trans (hq.mono (HSS.out _ hb0))
       clear hq hb0 qa0)
    | (refine load_seg (by rfl) 24 (.tmp 3) (by rfl) (S) 6 6 (by rfl) 26 .u64 a (seg 6 6 a) _ qa0 Tryd.underlying24 rfl (by kernel_rfl) rfl (by rw [ha.len]; decide) ?_))
  go_ret
  exact ⟨rfl, hb2⟩

set_option maxRecDepth 100000 in
set_option maxHeartbeats 4000000 in
theorem rBg (a : List Int) (ha : Nm 12 a) (w : World) : Calls Tryd.prog 15 #[.agg (vals .u64 a)] w fun e w' => e = .returned (.bool (big2 (v2 a))) ∧ Below w.heap.size w w' := by
  by_cases h : (v2 a).2 % PP = 0
  · exact rBg_z a ha h w
  · exact rBg_n a ha h w

set_option maxRecDepth 100000 in
set_option maxHeartbeats 4000000 in
theorem rSq_no (a : List Int) (ha : Nm 12 a) (h : gsq (v2 a) = false) (w : World) : Calls Tryd.prog 10 #[.agg (vals .u64 a)] w fun e w' => e = .returned (.tuple #[.agg (vals .u64 Fp2.Z12), .bool false]) ∧ Below w.heap.size w w' := by
  obtain ⟨X, hX⟩ : ∃ o, F2 (rt LL (v2 a)) = o := ⟨_, rfl⟩
  have nX : Nm 12 X := hX ▸ .F2 _
  have LX : Keep (X.length = 12) := ⟨nX.len⟩
  obtain ⟨Q, hQ⟩ : ∃ o, F2 (gm (v2 X) (v2 X)) = o := ⟨_, rfl⟩
  have nQ : Nm 12 Q := hQ ▸ .F2 _
  have LQ : Keep (Q.length = 12) := ⟨nQ.len⟩
  obtain ⟨D, hD⟩ : ∃ o, F2 (v2 a) = o := ⟨_, rfl⟩
  have nD : Nm 12 D := hD ▸ .F2 _
  have LD : Keep (D.length = 12) := ⟨nD.len⟩
  have P1 : Keep (∀ x : World, _) := ⟨fun x => rRoot_c a ha x⟩
  rw [hX] at P1
  have P2 : Keep (∀ x : World, _) := ⟨fun x => refMul2 X nX X nX x⟩
  rw [hQ] at P2
  have P3 : Keep (∀ x : World, _) := ⟨fun x => refRed2 a ha x⟩
  rw [hD] at P3
  have hE : Q ≠ D := by
    rw [← hQ, ← hD]
    exact no_root h _
  have E1 := neq12 nQ.len nD.len hE
  clear hE nD
  have hgd := gd2
  have La : Keep (a.length = 12) := ⟨ha.len⟩
  have Lo : Keep (Fp2.Z12.length = 12) := ⟨rfl⟩
  obtain ⟨S, hS⟩ : ∃ S, w.heap.size = S := ⟨_, rfl⟩
  have qa0 : Has ((w.alloc (.cells (vals .u64 a) 26)).alloc (.cells (vals .u64 Fp2.Z12) 26)) (S) 26 (vals .u64 a) := by exact ((Has.new' _ hS.symm _ _).alloc _)
  have qo0 : Has ((w.alloc (.cells (vals .u64 a) 26)).alloc (.cells (vals .u64 Fp2.Z12) 26)) (S + 1) 26 (vals .u64 Fp2.Z12) := by exact (Has.new' _ (by simp only [World.size_alloc, hS]) _ _)
  have hb0 : Below S w ((w.alloc (.cells (vals .u64 a) 26)).alloc (.cells (vals .u64 Fp2.Z12) 26)) := by rw [← hS]; exact (((Below.refl _ _).alloc (Nat.le_refl _) _).alloc (by simp) _)
  have hsz0 : ((w.alloc (.cells (vals .u64 a) 26)).alloc (.cells (vals .u64 Fp2.Z12) 26)).heap.size = S + 2 := by simp only [World.size_alloc, hS]
  have HS0 : Keep (S ≤ w.heap.size) := ⟨by omega⟩
  have HSS : Keep (∀ x : World, Below S w x → S ≤ x.heap.size) := ⟨fun x hb => Nat.le_trans HS0.out hb.size⟩
  rw [hS]
  clear h hX hQ nX nQ ha hD
  go_enter Tryd.func10, Tryd.ntmps10
  go_wp2_with (first
    | (refine store_abs2 (by rfl) 26 (.tmp 4) (.tmp 6) (by rfl) (by rfl) (w1.heap.size) (vals .u64 X) (by rfl) (by rfl) 26 (vals .u64 Fp2.Z12) (Has.new' _ rfl _ _) (by rw [vals_size, LX.out]; kernel_rfl) (by first | rfl | (rw [vals_size, vals_size, LX.out]; rfl)) vals_one ?_
       intro w2 qx12 hkeep hbg
       have hbe := ((Below.refl (w1).heap.size (w1)).alloc (Nat.le_refl _) (.cells (vals .u64 Fp2.Z12) 26)).trans hbg
       have Nax1 : Keep (S < w1.heap.size) := ⟨qa1.lt⟩
       have Nox1 : Keep (S + 1 < w1.heap.size) := ⟨qo1.lt⟩
       have Mx1 : Keep (S ≤ w1.heap.size) := ⟨HSS.out _ hb1⟩
       have qa2 := qa1.keep hbe
       have qo2 := qo1.keep hbe
       have hb2 := hb1.trans (hbe.mono (HSS.out _ hb1))
       clear hkeep hbg hbe hb1 qa1 qo1)
    | (have hq0 := hb0
       clear hq0
       go_at_call 31
       refine (P1.out _).mono ?_
       rintro e w1 ⟨rfl, hq⟩
       have qa1 := qa0.keep hq
       have qo1 := qo0.keep hq
       have hb1 := hb0.trans (hq.mono (HSS.out _ hb0))
       clear hq hb0 qa0 qo0)
    | (refine wpList_load_row rfl 26 (.tmp 1) rfl (S) rfl _ _ _ _ qa0.eq Tryd.underlying26 rfl (by rw [vals_size, La.out]; kernel_rfl) ?_))
  refine wp_fam_all (by kernel_rfl) (by kernel_rfl) (fun I hI' fw hf hback => ?_)
  repeat (first
    | (go_big_quiet_want
       refine quiet_load_seg 26 (.tmp 4) (by rfl) (w1.heap.size) 0 12 (by rfl) 26 .u64 X X _ (fun w' ⟨i, hi⟩ => by rw [hi]; exact qx12.keep (hf i)) Tryd.underlying26 rfl (by kernel_rfl) (by rw [List.drop_zero, take_all LX.out]) (by rw [LX.out]; omega) ?_
       simp only [Act.put, List.setIfInBounds_toArray, List.set_cons_zero, List.set_cons_succ]
       go_big_quiet_on)
    | (go_big_quiet_want
       refine quiet_load_seg 26 (.tmp 1) (by rfl) (S) 0 12 (by rfl) 26 .u64 a a _ (fun w' ⟨i, hi⟩ => by rw [hi]; exact qa2.keep (hf i)) Tryd.underlying26 rfl (by kernel_rfl) (by rw [List.drop_zero, take_all La.out]) (by rw [La.out]; omega) ?_
       simp only [Act.put, List.setIfInBounds_toArray, List.set_cons_zero, List.set_cons_succ]
       go_big_quiet_on)
    | go_big_quiet_step (first | fail | (go_at_call 32; with_reducible exact calls_fam hf hback (P2.out _)) | (go_at_call 33; with_reducible exact calls_fam hf hback (P3.out _))))
  refine wpQuiet_nil ?_
  intro w3 hq
  have qa3 := qa2.keep hq
  have qo3 := qo2.keep hq
  have qx13 := qx12.keep hq
  have hb3 := hb2.trans (hq.mono (HSS.out _ hb2))
  clear hf hback hq hb2 qa2 qo2 qx12 
  go_wp2_with (first
    | (refine store_abs2 (by rfl) 26 (.tmp 2) (.tmp 13) (by rfl) (by rfl) (S + 1) (vals .u64 Fp2.Z12) (by rfl) (by rfl) 26 _ qo3 (by rw [vals_size, Lo.out]; kernel_rfl) (by first | rfl | (rw [vals_size, vals_size, Lo.out]; rfl) | rw [vals_size, vals_size, Lo.out, Lo.out]) vals_one ?_
       intro w4 qo4 hkeep hbg
       have qa4 := hkeep _ _ _ qa3 (by omega)
       have qx14 := hkeep _ _ _ qx13 (Nat.ne_of_gt Nox1.out)
       have hb4 := hb3.trans (hbg.mono (by omega))
       clear hkeep hbg hb3 qa3 qo3 qx13)
    | (refine wpList_buildTo (by rfl) 26 #[] (by rfl) (some 13) (by rfl) (vals .u64 Fp2.Z12) (by kernel_rfl) ?_))
  refine bodyPost_ret (v := .tuple #[.agg (vals .u64 Fp2.Z12), .bool false]) (results_row_tmp rfl _ _ (S + 1) _ _ _ _ _ rfl rfl qo4.eq Tryd.underlying26 rfl (by rw [vals_size, Lo.out]; kernel_rfl)) rfl ⟨rfl, hb4⟩

set_option maxRecDepth 100000 in
set_option maxHeartbeats 4000000 in
theorem rSq_yes0 (a : List Int) (ha : Nm 12 a) (h : gsq (v2 a) = true) (h2 : sg2 (rt LL (v2 a)) = 0) (w : World) : Calls Tryd.prog 10 #[.agg (vals .u64 a)] w fun e w' => e = .returned (.tuple #[.agg (vals .u64 (root2 (v2 a))), .bool true]) ∧ Below w.heap.size w w' := by
  obtain ⟨X, hX⟩ : ∃ o, F2 (rt LL (v2 a)) = o := ⟨_, rfl⟩
  have nX : Nm 12 X := hX ▸ .F2 _
  have LX : Keep (X.length = 12) := ⟨nX.len⟩
  obtain ⟨Q, hQ⟩ : ∃ o, F2 (gm (v2 X) (v2 X)) = o := ⟨_, rfl⟩
  have nQ : Nm 12 Q := hQ ▸ .F2 _
  have LQ : Keep (Q.length = 12) := ⟨nQ.len⟩
  obtain ⟨D, hD⟩ : ∃ o, F2 (v2 a) = o := ⟨_, rfl⟩
  have nD : Nm 12 D := hD ▸ .F2 _
  have LD : Keep (D.length = 12) := ⟨nD.len⟩
  have P1 : Keep (∀ x : World, _) := ⟨fun x => rRoot_c a ha x⟩
  rw [hX] at P1
  have P2 : Keep (∀ x : World, _) := ⟨fun x => refMul2 X nX X nX x⟩
  rw [hQ] at P2
  have P3 : Keep (∀ x : World, _) := ⟨fun x => refRed2 a ha x⟩
  rw [hD] at P3
  have hE : Q = D := by
    rw [← hQ, ← hD, ← hX]
    exact F2_eq ((gm_congr (v2_F2 _) (v2_F2 _)).trans (rt_root h))
  subst hE
  have E1 := eq12 Q nQ.len
  have P4 : Keep (∀ x : World, _) := ⟨fun x => rSg X nX x⟩
  have h3 : sg2 (v2 X) = 0 := by rw [← hX, sg2_congr (v2_F2 _)]; exact h2
  rw [h3] at P4
  have hr : root2 (v2 a) = X := by
    rw [← hX]
    show ev2 (rt LL (v2 a)) = _
    rw [ev2, if_pos h2]
  rw [hr]
  clear hr
  clear h3 h2
  have hgd := gd2
  have La : Keep (a.length = 12) := ⟨ha.len⟩
  have Lo : Keep (Fp2.Z12.length = 12) := ⟨rfl⟩
  obtain ⟨S, hS⟩ : ∃ S, w.heap.size = S := ⟨_, rfl⟩
  have qa0 : Has ((w.alloc (.cells (vals .u64 a) 26)).alloc (.cells (vals .u64 Fp2.Z12) 26)) (S) 26 (vals .u64 a) := by exact ((Has.new' _ hS.symm _ _).alloc _)
  have qo0 : Has ((w.alloc (.cells (vals .u64 a) 26)).alloc (.cells (vals .u64 Fp2.Z12) 26)) (S + 1) 26 (vals .u64 Fp2.Z12) := by exact (Has.new' _ (by simp only [World.size_alloc, hS]) _ _)
  have hb0 : Below S w ((w.alloc (.cells (vals .u64 a) 26)).alloc (.cells (vals .u64 Fp2.Z12) 26)) := by rw [← hS]; exact (((Below.refl _ _).alloc (Nat.le_refl _) _).alloc (by simp) _)
  have hsz0 : ((w.alloc (.cells (vals .u64 a) 26)).alloc (.cells (vals .u64 Fp2.Z12) 26)).heap.size = S + 2 := by simp only [World.size_alloc, hS]
  have HS0 : Keep (S ≤ w.heap.size) := ⟨by omega⟩
  have HSS : Keep (∀ x : World, Below S w x → S ≤ x.heap.size) := ⟨fun x hb => Nat.le_trans HS0.out hb.size⟩
  rw [hS]
  clear h hX hQ nX nQ ha hD
  go_enter Tryd.func10, Tryd.ntmps10
  go_wp2_with (first
    | (refine store_abs2 (by rfl) 26 (.tmp 4) (.tmp 6) (by rfl) (by rfl) (w1.heap.size) (vals .u64 X) (by rfl) (by rfl) 26 (vals .u64 Fp2.Z12) (Has.new' _ rfl _ _) (by rw [vals_size, LX.out]; kernel_rfl) (by first | rfl | (rw [vals_size, vals_size, LX.out]; rfl)) vals_one ?_
       intro w2 qx12 hkeep hbg
       have hbe := ((Below.refl (w1).heap.size (w1)).alloc (Nat.le_refl _) (.cells (vals .u64 Fp2.Z12) 26)).trans hbg
       have Nax1 : Keep (S < w1.heap.size) := ⟨qa1.lt⟩
       have Nox1 : Keep (S + 1 < w1.heap.size) := ⟨qo1.lt⟩
       have Mx1 : Keep (S ≤ w1.heap.size) := ⟨HSS.out _ hb1⟩
       have qa2 := qa1.keep hbe
       have qo2 := qo1.keep hbe
       have hb2 := hb1.trans (hbe.mono (HSS.out _ hb1))
       clear hkeep hbg hbe hb1 qa1 qo1)
    | (have hq0 := hb0
       clear hq0
       go_at_call 31
       refine (P1.out _).mono ?_
       rintro e w1 ⟨rfl, hq⟩
       have qa1 := qa0.keep hq
       have qo1 := qo0.keep hq
       have hb1 := hb0.trans (hq.mono (HSS.out _ hb0))
       clear hq hb0 qa0 qo0)
    | (refine wpList_load_row rfl 26 (.tmp 1) rfl (S) rfl _ _ _ _ qa0.eq Tryd.underlying26 rfl (by rw [vals_size, La.out]; kernel_rfl) ?_))
  refine wp_fam_all (by kernel_rfl) (by kernel_rfl) (fun I hI' fw hf hback => ?_)
  repeat (first
    | (go_big_quiet_want
       refine quiet_load_seg 26 (.tmp 4) (by rfl) (w1.heap.size) 0 12 (by rfl) 26 .u64 X X _ (fun w' ⟨i, hi⟩ => by rw [hi]; exact qx12.keep (hf i)) Tryd.underlying26 rfl (by kernel_rfl) (by rw [List.drop_zero, take_all LX.out]) (by rw [LX.out]; omega) ?_
       simp only [Act.put, List.setIfInBounds_toArray, List.set_cons_zero, List.set_cons_succ]
       go_big_quiet_on)
    | (go_big_quiet_want
       refine quiet_load_seg 26 (.tmp 1) (by rfl) (S) 0 12 (by rfl) 26 .u64 a a _ (fun w' ⟨i, hi⟩ => by rw [hi]; exact qa2.keep (hf i)) Tryd.underlying26 rfl (by kernel_rfl) (by rw [List.drop_zero, take_all La.out]) (by rw [La.out]; omega) ?_
       simp only [Act.put, List.setIfInBounds_toArray, List.set_cons_zero, List.set_cons_succ]
       go_big_quiet_on)
    | go_big_quiet_step (first | fail | (go_at_call 32; with_reducible exact calls_fam hf hback (P2.out _)) | (go_at_call 33; with_reducible exact calls_fam hf hback (P3.out _))))
  refine wpQuiet_nil ?_
  intro w3 hq
  have qa3 := qa2.keep hq
  have qo3 := qo2.keep hq
  have qx13 := qx12.keep hq
  have hb3 := hb2.trans (hq.mono (HSS.out _ hb2))
  clear hf hback hq hb2 qa2 qo2 qx12 
  go_wp2_with (first
    | (refine store_abs2 (by rfl) 26 (.tmp 2) (.tmp 19) (by rfl) (by rfl) (S + 1) (vals .u64 X) (by rfl) (by rfl) 26 _ qo4 (by rw [vals_size, LX.out]; kernel_rfl) (by first | rfl | (rw [vals_size, vals_size, LX.out]; rfl) | rw [vals_size, vals_size, LX.out, Lo.out]) vals_one ?_
       intro w5 qo5 hkeep hbg
       have qa5 := hkeep _ _ _ qa4 (by omega)
       have qx15 := hkeep _ _ _ qx14 (Nat.ne_of_gt Nox1.out)
       have hb5 := hb4.trans (hbg.mono (by omega))
       clear hkeep hbg hb4 qa4 qo4 qx14)
    | (refine wpList_load_row rfl 26 (.tmp 4) rfl (w1.heap.size) rfl _ _ _ _ qx14.eq Tryd.underlying26 rfl (by rw [vals_size, LX.out]; kernel_rfl) ?_)
    | (have hq0 := hb3
       clear hq0
       go_at_call 13
       refine (P4.out _).mono ?_
       rintro e w4 ⟨rfl, hq⟩
       have qa4 := qa3.keep hq
       have qo4 := qo3.keep hq
       have qx14 := qx13.keep hq
       have hb4 := hb3.trans (hq.mono (HSS.out _ hb3))
       clear hq hb3 qa3 qo3 qx13)
    | (refine wpList_load_row rfl 26 (.tmp 4) rfl (w1.heap.size) rfl _ _ _ _ qx13.eq Tryd.underlying26 rfl (by rw [vals_size, LX.out]; kernel_rfl) ?_))
  refine bodyPost_ret (v := .tuple #[.agg (vals .u64 X), .bool true]) (results_row_tmp rfl _ _ (S + 1) _ _ _ _ _ rfl rfl qo5.eq Tryd.underlying26 rfl (by rw [vals_size, LX.out]; kernel_rfl)) rfl ⟨rfl, hb5⟩

set_option maxRecDepth 100000 in
set_option maxHeartbeats 4000000 in
theorem rSq_yes1 (a : List Int) (ha : Nm 12 a) (h : gsq (v2 a) = true) (h2 : sg2 (rt LL (v2 a)) = 1) (w : World) : Calls Tryd.prog 10 #[.agg (vals .u64 a)] w fun e w' => e = .returned (.tuple #[.agg (vals .u64 (root2 (v2 a))), .bool true]) ∧ Below w.heap.size w w' := by
  obtain ⟨X, hX⟩ : ∃ o, F2 (rt LL (v2 a)) = o := ⟨_, rfl⟩
  have nX : Nm 12 X := hX ▸ .F2 _
  have LX : Keep (X.length = 12) := ⟨nX.len⟩
  obtain ⟨Q, hQ⟩ : ∃ o, F2 (gm (v2 X) (v2 X)) = o := ⟨_, rfl⟩
  have nQ : Nm 12 Q := hQ ▸ .F2 _
  have LQ : Keep (Q.length = 12) := ⟨nQ.len⟩
  obtain ⟨D, hD⟩ : ∃ o, F2 (v2 a) = o := ⟨_, rfl⟩
  have nD : Nm 12 D := hD ▸ .F2 _
  have LD : Keep (D.length = 12) := ⟨nD.len⟩
  have P1 : Keep (∀ x : World, _) := ⟨fun x => rRoot_c a ha x⟩
  rw [hX] at P1
  have P2 : Keep (∀ x : World, _) := ⟨fun x => refMul2 X nX X nX x⟩
  rw [hQ] at P2
  have P3 : Keep (∀ x : World, _) := ⟨fun x => refRed2 a ha x⟩
  rw [hD] at P3
  have hE : Q = D := by
    rw [← hQ, ← hD, ← hX]
    exact F2_eq ((gm_congr (v2_F2 _) (v2_F2 _)).trans (rt_root h))
  subst hE
  have E1 := eq12 Q nQ.len
  have P4 : Keep (∀ x : World, _) := ⟨fun x => rSg X nX x⟩
  have h3 : sg2 (v2 X) = 1 := by rw [← hX, sg2_congr (v2_F2 _)]; exact h2
  rw [h3] at P4
  obtain ⟨N0, hN0⟩ : ∃ o, F2 (gn (v2 X)) = o := ⟨_, rfl⟩
  have nN0 : Nm 12 N0 := hN0 ▸ .F2 _
  have LN0 : Keep (N0.length = 12) := ⟨nN0.len⟩
  have P5 : Keep (∀ x : World, _) := ⟨fun x => refNeg2 X nX x⟩
  rw [hN0] at P5
  have hr : root2 (v2 a) = N0 := by
    rw [← hN0, ← hX]
    show ev2 (rt LL (v2 a)) = _
    rw [ev2, if_neg (by rw [h2]; decide)]
    exact F2_eq (gn_congr (v2_F2 _)).symm
  rw [hr]
  clear hr hN0 nN0
  clear h3 h2
  have hgd := gd2
  have La : Keep (a.length = 12) := ⟨ha.len⟩
  have Lo : Keep (Fp2.Z12.length = 12) := ⟨rfl⟩
  obtain ⟨S, hS⟩ : ∃ S, w.heap.size = S := ⟨_, rfl⟩
  have qa0 : Has ((w.alloc (.cells (vals .u64 a) 26)).alloc (.cells (vals .u64 Fp2.Z12) 26)) (S) 26 (vals .u64 a) := by exact ((Has.new' _ hS.symm _ _).alloc _)
  have qo0 : Has ((w.alloc (.cells (vals .u64 a) 26)).alloc (.cells (vals .u64 Fp2.Z12) 26)) (S + 1) 26 (vals .u64 Fp2.Z12) := by exact (Has.new' _ (by simp only [World.size_alloc, hS]) _ _)
  have hb0 : Below S w ((w.alloc (.cells (vals .u64 a) 26)).alloc (.cells (vals .u64 Fp2.Z12) 26)) := by rw [← hS]; exact (((Below.refl _ _).alloc (Nat.le_refl _) _).alloc (by simp) _)
  have hsz0 : ((w.alloc (.cells (vals .u64 a) 26)).alloc (.cells (vals .u64 Fp2.Z12) 26)).heap.size = S + 2 := by simp only [World.size_alloc, hS]
  have HS0 : Keep (S ≤ w.heap.size) := ⟨by omega⟩
  have HSS : Keep (∀ x : World, Below S w x → S ≤ x.heap.size) := ⟨fun x hb => Nat.le_trans HS0.out hb.size⟩
  rw [hS]
  clear h hX hQ nX nQ ha hD
  go_enter Tryd.func10, Tryd.ntmps10
  go_wp2_with (first
    | (refine store_abs2 (by rfl) 26 (.tmp 4) (.tmp 6) (by rfl) (by rfl) (w1.heap.size) (vals .u64 X) (by rfl) (by rfl) 26 (vals .u64 Fp2.Z12) (Has.new' _ rfl _ _) (by rw [vals_size, LX.out]; kernel_rfl) (by first | rfl | (rw [vals_size, vals_size, LX.out]; rfl)) vals_one ?_
       intro w2 qx12 hkeep hbg
       have hbe := ((Below.refl (w1).heap.size (w1)).alloc (Nat.le_refl _) (.cells (vals .u64 Fp2.Z12) 26)).trans hbg
       have Nax1 : Keep (S < w1.heap.size) := ⟨qa1.lt⟩
       have Nox1 : Keep (S + 1 < w1.heap.size) := ⟨qo1.lt⟩
       have Mx1 : Keep (S ≤ w1.heap.size) := ⟨HSS.out _ hb1⟩
       have qa2 := qa1.keep hbe
       have qo2 := qo1.keep hbe
       have hb2 := hb1.trans (hbe.mono (HSS.out _ hb1))
       clear hkeep hbg hbe hb1 qa1 qo1)
    | (have hq0 := hb0
       clear hq0
       go_at_call 31
       refine (P1.out _).mono ?_
       rintro e w1 ⟨rfl, hq⟩
       have qa1 := qa0.keep hq
       have qo1 := qo0.keep hq
       have hb1 := hb0.trans (hq.mono (HSS.out _ hb0))
       clear hq hb0 qa0 qo0)
    | (refine wpList_load_row rfl 26 (.tmp 1) rfl (S) rfl _ _ _ _ qa0.eq Tryd.underlying26 rfl (by rw [vals_size, La.out]; kernel_rfl) ?_))
  refine wp_fam_all (by kernel_rfl) (by kernel_rfl) (fun I hI' fw hf hback => ?_)
  repeat (first
    | (go_big_quiet_want
       refine quiet_load_seg 26 (.tmp 4) (by rfl) (w1.heap.size) 0 12 (by rfl) 26 .u64 X X _ (fun w' ⟨i, hi⟩ => by rw [hi]; exact qx12.keep (hf i)) Tryd.underlying26 rfl (by kernel_rfl) (by rw [List.drop_zero, take_all LX.out]) (by rw [LX.out]; omega) ?_
       simp only [Act.put, List.setIfInBounds_toArray, List.set_cons_zero, List.set_cons_succ]
       go_big_quiet_on)
    | (go_big_quiet_want
       refine quiet_load_seg 26 (.tmp 1) (by rfl) (S) 0 12 (by rfl) 26 .u64 a a _ (fun w' ⟨i, hi⟩ => by rw [hi]; exact qa2.keep (hf i)) Tryd.underlying26 rfl (by kernel_rfl) (by rw [List.drop_zero, take_all La.out]) (by rw [La.out]; omega) ?_
       simp only [Act.put, List.setIfInBounds_toArray, List.set_cons_zero, List.set_cons_succ]
       go_big_quiet_on)
    | go_big_quiet_step (first | fail | (go_at_call 32; with_reducible exact calls_fam hf hback (P2.out _)) | (go_at_call 33; with_reducible exact calls_fam hf hback (P3.out _))))
  refine wpQuiet_nil ?_
  intro w3 hq
  have qa3 := qa2.keep hq
  have qo3 := qo2.keep hq
  have qx13 := qx12.keep hq
  have hb3 := hb2.trans (hq.mono (HSS.out _ hb2))
  clear hf hback hq hb2 qa2 qo2 qx12 
  go_wp2_with (first
    | (refine store_abs2 (by rfl) 26 (.tmp 2) (.tmp 19) (by rfl) (by rfl) (S + 1) (vals .u64 N0) (by rfl) (by rfl) 26 _ qo6 (by rw [vals_size, LN0.out]; kernel_rfl) (by first | rfl | (rw [vals_size, vals_size, LN0.out]; rfl) | rw [vals_size, vals_size, LN0.out, Lo.out]) vals_one ?_
       intro w7 qo7 hkeep hbg
       have qa7 := hkeep _ _ _ qa6 (by omega)
       have qx17 := hkeep _ _ _ qx16 (Nat.ne_of_gt Nox1.out)
       have hb7 := hb6.trans (hbg.mono (by omega))
       clear hkeep hbg hb6 qa6 qo6 qx16)
    | (refine wpList_load_row rfl 26 (.tmp 4) rfl (w1.heap.size) rfl _ _ _ _ qx16.eq Tryd.underlying26 rfl (by rw [vals_size, LN0.out]; kernel_rfl) ?_)
    | (refine store_abs2 (by rfl) 26 (.tmp 4) (.tmp 18) (by rfl) (by rfl) (w1.heap.size) (vals .u64 N0) (by rfl) (by rfl) 26 _ qx15 (by rw [vals_size, LN0.out]; kernel_rfl) (by first | rfl | (rw [vals_size, vals_size, LN0.out]; rfl) | rw [vals_size, vals_size, LN0.out, LX.out]) vals_one ?_
       intro w6 qx16 hkeep hbg
       have qa6 := hkeep _ _ _ qa5 (Nat.ne_of_lt Nax1.out)
       have qo6 := hkeep _ _ _ qo5 (Nat.ne_of_lt Nox1.out)
       have hb6 := hb5.trans (hbg.mono Mx1.out)
       clear hkeep hbg hb5 qa5 qo5 qx15)
    | (have hq0 := hb4
       clear hq0
       go_at_call 34
       refine (P5.out _).mono ?_
       rintro e w5 ⟨rfl, hq⟩
       have qa5 := qa4.keep hq
       have qo5 := qo4.keep hq
       have qx15 := qx14.keep hq
       have hb5 := hb4.trans (hq.mono (HSS.out _ hb4))
       clear hq hb4 qa4 qo4 qx14)
    | (refine wpList_load_row rfl 26 (.tmp 4) rfl (w1.heap.size) rfl _ _ _ _ qx14.eq Tryd.underlying26 rfl (by rw [vals_size, LX.out]; kernel_rfl) ?_)
    | (have hq0 := hb3
       clear hq0
       go_at_call 13
       refine (P4.out _).mono ?_
       rintro e w4 ⟨rfl, hq⟩
       have qa4 := qa3.keep hq
       have qo4 := qo3.keep hq
       have qx14 := qx13.keep hq
       have hb4 := hb3.trans (hq.mono (HSS.out _ hb3))
       clear hq hb3 qa3 qo3 qx13)
    | (refine wpList_load_row rfl 26 (.tmp 4) rfl (w1.heap.size) rfl _ _ _ _ qx13.eq Tryd.underlying26 rfl (by rw [vals_size, LX.out]; kernel_rfl) ?_))
  refine bodyPost_ret (v := .tuple #[.agg (vals .u64 N0), .bool true]) (results_row_tmp rfl _ _ (S + 1) _ _ _ _ _ rfl rfl qo7.eq Tryd.underlying26 rfl (by rw [vals_size, LN0.out]; kernel_rfl)) rfl ⟨rfl, hb7⟩

set_option maxRecDepth 100000 in
set_option maxHeartbeats 4000000 in
theorem rSq_yes (a : List Int) (ha : Nm 12 a) (h : gsq (v2 a) = true) (w : World) : Calls Tryd.prog 10 #[.agg (vals .u64 a)] w fun e w' => e = .returned (.tuple #[.agg (vals .u64 (root2 (v2 a))), .bool true]) ∧ Below w.heap.size w w' := by
  rcases sg2_or (rt LL (v2 a)) with h2 | h2
  · exact rSq_yes0 a ha h h2 w
  · exact rSq_yes1 a ha h h2 w

end Go.Proofs.YtoogmgckbalboaaDoor.Fp2r
