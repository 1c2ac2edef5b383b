/-
  Own text. The contracts of layer 8's reference: the root.
-/
import Derived.Test.YtoogmgckbalboaaDoorFp2rMath
import Derived.Test.YtoogmgckbalboaaDoorFp2Ref2
import Derived.Test.YtoogmgckbalboaaDoorFp2Eq
import Derived.Test.YtoogmgckbalboaaDoorFprRef2
namespace Go.Proofs.YtoogmgckbalboaaDoor.Fp2r
set_option linter.unusedVariables false
set_option linter.unusedSimpArgs false
open Go Go.RowKit Go.Proofs.YtoogmgckbalboaaDoor.Reg Go.Proofs.YtoogmgckbalboaaDoor.Base Go.Proofs.YtoogmgckbalboaaDoor.Limb Go.Proofs.YtoogmgckbalboaaDoor.Fp Go.Proofs.YtoogmgckbalboaaDoor.Fpr Go.Proofs.YtoogmgckbalboaaDoor.Fp2 Go.Proofs.YtoogmgckbalboaaDoor.Bits

def LL : Nat := (PP.toNat - 3) / 4
def lowL : List Int := [17185665809301629610, 552535377879302143, 15693976698673184137, 15644892545385841839, 10576397981472451381, 468449654411884966]
def halfL : List Int := [15924587544893707605, 1105070755758604287, 12941209323636816658, 12843041017062132063, 2706051889235351147, 936899308823769933]
theorem lowL_words : Words lowL := words_of _ (by decide)
theorem halfL_words : Words halfL := words_of _ (by decide)
theorem lowL_num : (num lowL).toNat = LL := by decide +kernel
theorem halfL_num : (num halfL).toNat = 2 * LL + 1 := by decide +kernel
theorem O12_nm : Nm 12 [1, 0, 0, 0, 0, 0, 0, 0, 0, 0, 0, 0] := ⟨rfl, words_of _ (by decide)⟩
theorem U12_nm : Nm 12 [0, 0, 0, 0, 0, 0, 1, 0, 0, 0, 0, 0] := ⟨rfl, words_of _ (by decide)⟩
theorem v2_O12 : v2 [1, 0, 0, 0, 0, 0, 0, 0, 0, 0, 0, 0] = (1, 0) := by decide +kernel
theorem v2_U12 : v2 [0, 0, 0, 0, 0, 0, 1, 0, 0, 0, 0, 0] = (0, 1) := by decide +kernel
section
variable {p : G} {B X C M : List Int}
theorem val_x {L : Nat} (hB : F2 (gp p L) = B) : Fp2.E2 (gm (v2 B) p) (gm (gp p L) p) := by
  subst hB
  exact gm_congr (v2_F2 _) E2.rfl
theorem val_c {L : Nat} (hB : F2 (gp p L) = B) (hX : F2 (gm (v2 B) p) = X) : Fp2.E2 (gm (v2 B) (v2 X)) (gm (gp p L) (gm (gp p L) p)) := by
  subst hB hX
  exact gm_congr (v2_F2 _) ((v2_F2 _).trans (gm_congr (v2_F2 _) E2.rfl))
theorem val_e {L : Nat} (hB : F2 (gp p L) = B) (hX : F2 (gm (v2 B) p) = X) (hC : F2 (gm (v2 B) (v2 X)) = C) (hM : F2 (gn (v2 [1, 0, 0, 0, 0, 0, 0, 0, 0, 0, 0, 0])) = M) :
    C = M ↔ rt.E2 (gm (gp p L) (gm (gp p L) p)) (-1, 0) = true := by
  have h1 := val_c hB hX
  rw [rtE, ← hC, ← hM, v2_O12]
  exact ⟨fun h => h1.symm.trans (F2_inj h), fun h => F2_eq (h1.trans h)⟩
theorem val_ra {L : Nat} (hB : F2 (gp p L) = B) (hX : F2 (gm (v2 B) p) = X) (h : rt.E2 (gm (gp p L) (gm (gp p L) p)) (-1, 0) = true) : F2 (gm (v2 X) (v2 [0, 0, 0, 0, 0, 0, 1, 0, 0, 0, 0, 0])) = F2 (rt L p) := by
  rw [rt, if_pos h, v2_U12]
  subst hB hX
  exact F2_eq (gm_congr ((v2_F2 _).trans (gm_congr (v2_F2 _) E2.rfl)) E2.rfl)
theorem val_rb {L : Nat} (hB : F2 (gp p L) = B) (hX : F2 (gm (v2 B) p) = X) (hC : F2 (gm (v2 B) (v2 X)) = C) (h : ¬ rt.E2 (gm (gp p L) (gm (gp p L) p)) (-1, 0) = true) {Y Z : List Int} (hY : F2 (ga (v2 [1, 0, 0, 0, 0, 0, 0, 0, 0, 0, 0, 0]) (v2 C)) = Y) (hZ : F2 (gp (v2 Y) (2 * L + 1)) = Z) :
    F2 (gm (v2 Z) (v2 X)) = F2 (rt L p) := by
  rw [rt, if_neg h]
  have h1 := val_c hB hX
  have hx : Fp2.E2 (v2 X) (gm (gp p L) p) := by
    subst hB hX
    exact (v2_F2 _).trans (gm_congr (v2_F2 _) E2.rfl)
  refine F2_eq (gm_congr ?_ hx)
  subst hZ
  refine (v2_F2 _).trans (gp_congr ?_ _)
  subst hY
  refine (v2_F2 _).trans ?_
  rw [v2_O12]
  subst hC
  exact ga_congr E2.rfl ((v2_F2 _).trans h1)
end
theorem Z6_iff6 (x : Int) : Fp.fe x = Z6 ↔ x % PP = 0 := by
  have e : Z6 = Fp.fe 0 := by decide +kernel
  rw [e]
  exact ⟨fun h => (fe_inj h).trans (Int.zero_emod _), fun h => fe_congr (h.trans (Int.zero_emod _).symm)⟩

set_option maxRecDepth 100000 in
set_option maxHeartbeats 4000000 in
theorem refLow_c (w : World) : Calls Tryd.prog 60 #[] w fun e w' => e = .returned (.slice (some ⟨w.heap.size, 0, none⟩) 6 6) ∧ Has w' w.heap.size 22 (vals .u64 lowL) ∧ Below w.heap.size w w' := by
  have hb := (Below.refl w.heap.size w).alloc (Nat.le_refl _) (.cells (vals .u64 lowL) 22)
  have hq : Has (w.alloc (.cells (vals .u64 lowL) 22)) w.heap.size 22 (vals .u64 lowL) := Has.new _ _ _
  go_enter Tryd.func60, Tryd.ntmps60
  go_wp2
  go_ret
  exact ⟨rfl, hq, hb⟩

set_option maxRecDepth 100000 in
set_option maxHeartbeats 4000000 in
theorem refHalf_c (w : World) : Calls Tryd.prog 62 #[] w fun e w' => e = .returned (.slice (some ⟨w.heap.size, 0, none⟩) 6 6) ∧ Has w' w.heap.size 22 (vals .u64 halfL) ∧ Below w.heap.size w w' := by
  have hb := (Below.refl w.heap.size w).alloc (Nat.le_refl _) (.cells (vals .u64 halfL) 22)
  have hq : Has (w.alloc (.cells (vals .u64 halfL) 22)) w.heap.size 22 (vals .u64 halfL) := Has.new _ _ _
  go_enter Tryd.func62, Tryd.ntmps62
  go_wp2
  go_ret
  exact ⟨rfl, hq, hb⟩

set_option maxRecDepth 100000 in
set_option maxHeartbeats 4000000 in
theorem rRoot_a (a : List Int) (ha : Nm 12 a) (h : rt.E2 (gm (gp (v2 a) LL) (gm (gp (v2 a) LL) (v2 a))) (-1, 0) = true) (w : World) : Calls Tryd.prog 31 #[.agg (vals .u64 a)] w fun e w' => e = .returned (.agg (vals .u64 (F2 (rt LL (v2 a))))) ∧ Below w.heap.size w w' := by
  obtain ⟨B, hB⟩ : ∃ o, F2 (gp (v2 a) LL) = o := ⟨_, rfl⟩
  have nB : Nm 12 B := hB ▸ .F2 _
  have LB : Keep (B.length = 12) := ⟨nB.len⟩
  obtain ⟨X, hX⟩ : ∃ o, F2 (gm (v2 B) (v2 a)) = o := ⟨_, rfl⟩
  have nX : Nm 12 X := hX ▸ .F2 _
  have LX : Keep (X.length = 12) := ⟨nX.len⟩
  obtain ⟨C, hC⟩ : ∃ o, F2 (gm (v2 B) (v2 X)) = o := ⟨_, rfl⟩
  have nC : Nm 12 C := hC ▸ .F2 _
  have LC : Keep (C.length = 12) := ⟨nC.len⟩
  obtain ⟨M, hM⟩ : ∃ o, F2 (gn (v2 [1, 0, 0, 0, 0, 0, 0, 0, 0, 0, 0, 0])) = o := ⟨_, rfl⟩
  have nM : Nm 12 M := hM ▸ .F2 _
  have LM : Keep (M.length = 12) := ⟨nM.len⟩
  have PL : Keep (∀ (x : World) (A : Option Addr), Rd x x.heap.size A 6 .u64 lowL → Calls Tryd.prog 59 #[.agg (vals .u64 a), .slice A 6 6] x fun e x' => e = .returned (.agg (vals .u64 B)) ∧ Below x.heap.size x x') := ⟨fun x A h => by
    have h1 := refPow2 a ha A 6 6 lowL x.heap.size x h lowL_words (Nat.le_refl _) (by omega)
    rw [lowL_num, hB] at h1
    exact h1⟩
  have PX : Keep (∀ x : World, _) := ⟨fun x => refMul2 B nB a ha x⟩
  rw [hX] at PX
  have PC : Keep (∀ x : World, _) := ⟨fun x => refMul2 B nB X nX x⟩
  rw [hC] at PC
  have PN : Keep (∀ x : World, _) := ⟨fun x => refNeg2 [1, 0, 0, 0, 0, 0, 0, 0, 0, 0, 0, 0] O12_nm x⟩
  rw [hM] at PN
  have hE : C = M := (val_e hB hX hC hM).2 h
  have HR := val_ra hB hX h
  obtain ⟨R0, hR0⟩ : ∃ o, F2 (gm (v2 X) (v2 [0, 0, 0, 0, 0, 0, 1, 0, 0, 0, 0, 0])) = o := ⟨_, rfl⟩
  have nR0 : Nm 12 R0 := hR0 ▸ .F2 _
  have LR0 : Keep (R0.length = 12) := ⟨nR0.len⟩
  have PR : Keep (∀ x : World, _) := ⟨fun x => refMul2 X nX [0, 0, 0, 0, 0, 0, 1, 0, 0, 0, 0, 0] U12_nm x⟩
  rw [hR0] at PR
  rw [hR0] at HR
  rw [← HR]
  subst hE
  have E1 := eq12 C nC.len
  have hgd := gd2
  have Le : Keep (List.length ([1, 0, 0, 0, 0, 0, 0, 0, 0, 0, 0, 0] : List Int) = 12) := ⟨rfl⟩
  have Lq : Keep (lowL.length = 6) := ⟨rfl⟩
  have Lh : Keep (halfL.length = 6) := ⟨rfl⟩
  have La : Keep (a.length = 12) := ⟨ha.len⟩
  have Lo : Keep (Fp2.Z12.length = 12) := ⟨rfl⟩
  obtain ⟨S, hS⟩ : ∃ S, w.heap.size = S := ⟨_, rfl⟩
  have qa0 : Has ((w.alloc (.cells (vals .u64 a) 26)).alloc (.cells (vals .u64 Fp2.Z12) 26)) (S) 26 (vals .u64 a) := by exact ((Has.new' _ hS.symm _ _).alloc _)
  have qo0 : Has ((w.alloc (.cells (vals .u64 a) 26)).alloc (.cells (vals .u64 Fp2.Z12) 26)) (S + 1) 26 (vals .u64 Fp2.Z12) := by exact (Has.new' _ (by simp only [World.size_alloc, hS]) _ _)
  have hb0 : Below S w ((w.alloc (.cells (vals .u64 a) 26)).alloc (.cells (vals .u64 Fp2.Z12) 26)) := by rw [← hS]; exact (((Below.refl _ _).alloc (Nat.le_refl _) _).alloc (by simp) _)
  have hsz0 : ((w.alloc (.cells (vals .u64 a) 26)).alloc (.cells (vals .u64 Fp2.Z12) 26)).heap.size = S + 2 := by simp only [World.size_alloc, hS]
  have HS0 : Keep (S ≤ w.heap.size) := ⟨by omega⟩
  have HSS : Keep (∀ x : World, Below S w x → S ≤ x.heap.size) := ⟨fun x hb => Nat.le_trans HS0.out hb.size⟩
  rw [hS]
  clear h hB hX hC hR0 nB nX nC nR0 HR ha hM 
  go_enter Tryd.func31, Tryd.ntmps31
  go_wp2_with (first
    | (refine store_abs2 (by rfl) 26 (.tmp 3) (.tmp 8) (by rfl) (by rfl) (S + 2) (vals .u64 [1, 0, 0, 0, 0, 0, 0, 0, 0, 0, 0, 0]) (by rfl) (by rfl) 26 (vals .u64 Fp2.Z12) (Has.new' _ (by simp only [World.size_alloc, hS]) _ _) (by rw [vals_size, Le.out]; kernel_rfl) (by first | rfl | (rw [vals_size, vals_size, Le.out]; rfl)) vals_one ?_
       intro w1 qe11 hkeep hbg
       have hbe := ((Below.refl (((w.alloc (.cells (vals .u64 a) 26)).alloc (.cells (vals .u64 Fp2.Z12) 26))).heap.size (((w.alloc (.cells (vals .u64 a) 26)).alloc (.cells (vals .u64 Fp2.Z12) 26)))).alloc (Nat.le_refl _) (.cells (vals .u64 Fp2.Z12) 26)).trans (by rw [hsz0]; exact hbg)
       have Nae1 : Keep (S < S + 2) := ⟨by rw [← hsz0]; exact qa0.lt⟩
       have Noe1 : Keep (S + 1 < S + 2) := ⟨by rw [← hsz0]; exact qo0.lt⟩
       have Me1 : Keep (S ≤ S + 2) := ⟨by omega⟩
       have qa1 := qa0.keep hbe
       have qo1 := qo0.keep hbe
       have hb1 := hb0.trans (hbe.mono (HSS.out _ hb0))
       clear hkeep hbg hbe hb0 qa0 qo0)
    | (refine wpList_buildTo (by rfl) 26 #[(0, .tmp 7)] (by rfl) (some 8) (by rfl) (vals .u64 [1, 0, 0, 0, 0, 0, 0, 0, 0, 0, 0, 0]) (by kernel_rfl) ?_)
    | (refine wpList_buildTo (by rfl) 24 #[(0, .const (.int .u64 1))] (by rfl) (some 7) (by rfl) (vals .u64 [1, 0, 0, 0, 0, 0]) (by kernel_rfl) ?_))
  have HS : Keep (∀ x x' : World, (fun x : World => Below S w x ∧ Has x (S) 26 (vals .u64 a)) x → Below x.heap.size x x' → (fun x : World => Below S w x ∧ Has x (S) 26 (vals .u64 a)) x') := ⟨fun x x' h hb => by
    obtain ⟨hB, ha_⟩ := h
    exact ⟨hB.trans (hb.mono (HSS.out _ hB)), ha_.keep hb⟩⟩
  have hdr : (fun x : World => Below S w x ∧ Has x (S) 26 (vals .u64 a)) w1.drew := HS.out _ _ ⟨hb1, qa1⟩ ⟨rfl, rfl, rfl, Nat.le_refl _, fun _ _ => rfl⟩
  have hbd : Below w1.heap.size w1 w1.drew := ⟨rfl, rfl, rfl, Nat.le_refl _, fun _ _ => rfl⟩
  refine wp_regionU (S := (fun x : World => Below S w x ∧ Has x (S) 26 (vals .u64 a))) (by kernel_rfl) ?_
  change wpAnyU _ _ _ _ _ 5 _ _ _
  have ra := qa1.keep hbd
  have ro := qo1.keep hbd
  have re1 := qe11.keep hbd
  have hbr := hb1.trans (hbd.mono (HSS.out _ hb1))
  clear hbd hb1 qa1 qo1 qe11
  refine wpAnyU_take (i := 0) (v := _) HS.out (by rfl) (by kernel_rfl) (by kernel_rfl) (by kernel_rfl) (fun _ _ d _ _ h => by cases d <;> exact h) hdr (Steady.load_seg (by rfl) 26 (.tmp 1) (by rfl) (S) 0 12 (by rfl) 26 .u64 a a _ (fun w hw => hw.2) Tryd.underlying26 rfl (by kernel_rfl) (by rw [List.drop_zero, take_all La.out]) (by rw [La.out]; omega)) ?_
  simp only [List.getElem_toArray, List.getElem_cons_zero, List.getElem_cons_succ, Act.put, List.setIfInBounds_toArray, List.set_cons_zero, List.set_cons_succ]
  refine wpAnyU_two (i := 1) (k := 3) (by rfl) (by rfl) (by kernel_rfl) ?_ ?_
  · intro w2 hq
    have ok2 := HS.out _ _ hdr hq
    have ra' := ra.keep hq
    have ro' := ro.keep hq
    have re1' := re1.keep hq
    have hbr' := hbr.trans (hq.mono (HSS.out _ hbr))
    clear hbr hq ra ro re1
    refine wpList_own (by rfl) ?_
    go_wp2_with (go_at_call 60
                 refine (refLow_c _).mono ?_
                 rintro e w3 ⟨rfl, rk1, hq⟩
                 have Nak1 : Keep (S < w2.heap.size) := ⟨ra'.lt⟩
                 have Nok1 : Keep (S + 1 < w2.heap.size) := ⟨ro'.lt⟩
                 have Ne1k1 : Keep (S + 2 < w2.heap.size) := ⟨re1'.lt⟩
                 have Mk1 : Keep (S ≤ w2.heap.size) := ⟨HSS.out _ hbr'⟩
                 have ok3 := HS.out _ _ ok2 hq
                 have ra := ra'.keep hq
                 have ro := ro'.keep hq
                 have re1 := re1'.keep hq
                 have hbr := hbr'.trans (hq.mono (HSS.out _ hbr'))
                 clear hq hbr' ok2 ra' ro' re1')
    try refine ⟨ok3, ?_⟩
    have HS3 : Keep (∀ x x' : World, (fun x : World => Below S w x ∧ Has x (S) 26 (vals .u64 a) ∧ Has x (w2.heap.size) 22 (vals .u64 lowL)) x → Below x.heap.size x x' → (fun x : World => Below S w x ∧ Has x (S) 26 (vals .u64 a) ∧ Has x (w2.heap.size) 22 (vals .u64 lowL)) x') := ⟨fun x x' h hb => by
      obtain ⟨hB, ha_, hk1_⟩ := h
      exact ⟨hB.trans (hb.mono (HSS.out _ hB)), ha_.keep hb, hk1_.keep hb⟩⟩
    refine wpAnyU_weaken (S' := (fun x : World => Below S w x ∧ Has x (S) 26 (vals .u64 a) ∧ Has x (w2.heap.size) 22 (vals .u64 lowL))) (fun w h => ⟨h.1, h.2.1⟩) ?_
    have oq3 : (fun x : World => Below S w x ∧ Has x (S) 26 (vals .u64 a) ∧ Has x (w2.heap.size) 22 (vals .u64 lowL)) w3 := ⟨hbr, ra, rk1⟩
    clear ok3 HS
    refine wpAnyU_take (i := 2) (v := .agg (vals .u64 B)) HS3.out (by rfl) (by kernel_rfl) (by kernel_rfl) (by kernel_rfl) (fun _ _ d _ _ h => by cases d <;> exact h) oq3 (Or.inl ⟨by rfl, fun w hw => (by unfold Oper.quietAt; go_simp; exact PL.out _ _ (Rd.of_has (hw.2.2) (hw.2.2).lt (by rfl) (by decide)))⟩) ?_
    simp only [List.getElem_toArray, List.getElem_cons_zero, List.getElem_cons_succ, Act.put, List.setIfInBounds_toArray, List.set_cons_zero, List.set_cons_succ]
    refine wpAnyU_run (i := 3) (by rfl) (by kernel_rfl) (fun w4 hq => ?_)
    have ok4 := HS3.out _ _ oq3 hq
    have ra' := ra.keep hq
    have ro' := ro.keep hq
    have re1' := re1.keep hq
    have rk1' := rk1.keep hq
    have hbr' := hbr.trans (hq.mono (HSS.out _ hbr))
    clear hbr hq ra ro re1 rk1
    have Nab1 : Keep (S < w4.heap.size) := ⟨ra'.lt⟩
    have Nob1 : Keep (S + 1 < w4.heap.size) := ⟨ro'.lt⟩
    have Ne1b1 : Keep (S + 2 < w4.heap.size) := ⟨re1'.lt⟩
    have Nk1b1 : Keep (w2.heap.size < w4.heap.size) := ⟨rk1'.lt⟩
    have Mb1 : Keep (S ≤ w4.heap.size) := ⟨HSS.out _ hbr'⟩
    have hal : Below w4.heap.size w4 (w4.alloc (.cells (vals .u64 Fp2.Z12) 26)) := (Below.refl _ _).alloc (Nat.le_refl _) _
    have ok5 := HS3.out _ _ ok4 hal
    have ra := ra'.keep hal
    have ro := ro'.keep hal
    have re1 := re1'.keep hal
    have rk1 := rk1'.keep hal
    have rb1 : Has (w4.alloc (.cells (vals .u64 Fp2.Z12) 26)) w4.heap.size 26 (vals .u64 Fp2.Z12) := Has.new _ _ _
    have hbr := hbr'.trans (hal.mono (HSS.out _ hbr'))
    clear hal hbr' ok4 ra' ro' re1' rk1'
    refine wpList_own (by rfl) ?_
    go_wp2
    try refine ⟨ok5, ?_⟩
    obtain ⟨gb1, hgb1⟩ : ∃ g, w4.heap.size = g := ⟨_, rfl⟩
    obtain ⟨w5, hw5⟩ : ∃ x, w4.alloc (.cells (vals .u64 Fp2.Z12) 26) = x := ⟨_, rfl⟩
    change wpAnyU _ _ _ _ _ _ _ _ (w4.alloc (.cells (vals .u64 Fp2.Z12) 26))
    rw [hw5] at ok5 hbr ra ro re1 rk1 rb1 ⊢
    rw [hgb1] at rb1 Mb1 Nab1 Nob1 Ne1b1 Nk1b1 ⊢
    clear hgb1 hw5
    refine wpAnyU_run (i := 4) (by rfl) (by kernel_rfl) (fun w6 hq => ?_)
    have ok6 := HS3.out _ _ ok5 hq
    have ra' := ra.keep hq
    have ro' := ro.keep hq
    have re1' := re1.keep hq
    have rk1' := rk1.keep hq
    have rb1' := rb1.keep hq
    have hbr' := hbr.trans (hq.mono (HSS.out _ hbr))
    clear hbr hq ra ro re1 rk1 rb1
    refine wpList_own (by rfl) ?_
    go_wp2_with (refine store_abs2 (by rfl) 26 (.tmp 4) (.tmp 11) (by rfl) (by rfl) (gb1) (vals .u64 B) (by rfl) (by rfl) 26 _ rb1' (by rw [vals_size, LB.out]; kernel_rfl) (by first | rfl | (rw [vals_size, vals_size, LB.out]; rfl)) vals_one ?_
                 intro w7 rb1 hkeep hbg
                 have ra := hkeep _ _ _ ra' (Nat.ne_of_lt Nab1.out)
                 have ro := hkeep _ _ _ ro' (Nat.ne_of_lt Nob1.out)
                 have re1 := hkeep _ _ _ re1' (Nat.ne_of_lt Ne1b1.out)
                 have rk1 := hkeep _ _ _ rk1' (Nat.ne_of_lt Nk1b1.out)
                 have hbr := hbr'.trans (hbg.mono Mb1.out)
                 clear hkeep hbg hbr' ra' ro' re1' rk1' rb1')
    try refine ⟨⟨hbr, ra, rk1⟩, ?_⟩
    have ok7 : (fun x : World => Below S w x ∧ Has x (S) 26 (vals .u64 a) ∧ Has x (w2.heap.size) 22 (vals .u64 lowL)) w7 := ⟨hbr, ra, rk1⟩
    clear ok6
    refine wpAnyU_end (by kernel_rfl) (fun w8 hq => ?_)
    have qa8 := ra.keep hq
    have qo8 := ro.keep hq
    have qe18 := re1.keep hq
    have qk18 := rk1.keep hq
    have qb18 := rb1.keep hq
    have hb8 := hbr.trans (hq.mono (HSS.out _ hbr))
    clear hq hbr ok7 HS3  ra ro re1 rk1 rb1
    go_wp2_with (first
      | (refine store_abs2 (by rfl) 26 (.tmp 6) (.tmp 17) (by rfl) (by rfl) (w11.heap.size) (vals .u64 C) (by rfl) (by rfl) 26 (vals .u64 Fp2.Z12) (Has.new' _ rfl _ _) (by rw [vals_size, LC.out]; kernel_rfl) (by first | rfl | (rw [vals_size, vals_size, LC.out]; rfl)) vals_one ?_
         intro w12 qc112 hkeep hbg
         have hbe := ((Below.refl (w11).heap.size (w11)).alloc (Nat.le_refl _) (.cells (vals .u64 Fp2.Z12) 26)).trans hbg
         have Nac1 : Keep (S < w11.heap.size) := ⟨qa11.lt⟩
         have Noc1 : Keep (S + 1 < w11.heap.size) := ⟨qo11.lt⟩
         have Ne1c1 : Keep (S + 2 < w11.heap.size) := ⟨qe111.lt⟩
         have Nk1c1 : Keep (w2.heap.size < w11.heap.size) := ⟨qk111.lt⟩
         have Nb1c1 : Keep (gb1 < w11.heap.size) := ⟨qb111.lt⟩
         have Nx1c1 : Keep (w9.heap.size < w11.heap.size) := ⟨qx111.lt⟩
         have Mc1 : Keep (S ≤ w11.heap.size) := ⟨HSS.out _ hb11⟩
         have qa12 := qa11.keep hbe
         have qo12 := qo11.keep hbe
         have qe112 := qe111.keep hbe
         have qk112 := qk111.keep hbe
         have qb112 := qb111.keep hbe
         have qx112 := qx111.keep hbe
         have hb12 := hb11.trans (hbe.mono (HSS.out _ hb11))
         clear hkeep hbg hbe hb11 qa11 qo11 qe111 qk111 qb111 qx111)
      | (have hq0 := hb10
         clear hq0
         go_at_call 32
         refine (PC.out _).mono ?_
         rintro e w11 ⟨rfl, hq⟩
         have qa11 := qa10.keep hq
         have qo11 := qo10.keep hq
         have qe111 := qe110.keep hq
         have qk111 := qk110.keep hq
         have qb111 := qb110.keep hq
         have qx111 := qx110.keep hq
         have hb11 := hb10.trans (hq.mono (HSS.out _ hb10))
         clear hq hb10 qa10 qo10 qe110 qk110 qb110 qx110)
      | (refine wpList_load_row rfl 26 (.tmp 5) rfl (w9.heap.size) rfl _ _ _ _ qx110.eq Tryd.underlying26 rfl (by rw [vals_size, LX.out]; kernel_rfl) ?_)
      | (refine wpList_load_row rfl 26 (.tmp 4) rfl (gb1) rfl _ _ _ _ qb110.eq Tryd.underlying26 rfl (by rw [vals_size, LB.out]; kernel_rfl) ?_)
      | (refine store_abs2 (by rfl) 26 (.tmp 5) (.tmp 14) (by rfl) (by rfl) (w9.heap.size) (vals .u64 X) (by rfl) (by rfl) 26 (vals .u64 Fp2.Z12) (Has.new' _ rfl _ _) (by rw [vals_size, LX.out]; kernel_rfl) (by first | rfl | (rw [vals_size, vals_size, LX.out]; rfl)) vals_one ?_
         intro w10 qx110 hkeep hbg
         have hbe := ((Below.refl (w9).heap.size (w9)).alloc (Nat.le_refl _) (.cells (vals .u64 Fp2.Z12) 26)).trans hbg
         have Nax1 : Keep (S < w9.heap.size) := ⟨qa9.lt⟩
         have Nox1 : Keep (S + 1 < w9.heap.size) := ⟨qo9.lt⟩
         have Ne1x1 : Keep (S + 2 < w9.heap.size) := ⟨qe19.lt⟩
         have Nk1x1 : Keep (w2.heap.size < w9.heap.size) := ⟨qk19.lt⟩
         have Nb1x1 : Keep (gb1 < w9.heap.size) := ⟨qb19.lt⟩
         have Mx1 : Keep (S ≤ w9.heap.size) := ⟨HSS.out _ hb9⟩
         have qa10 := qa9.keep hbe
         have qo10 := qo9.keep hbe
         have qe110 := qe19.keep hbe
         have qk110 := qk19.keep hbe
         have qb110 := qb19.keep hbe
         have hb10 := hb9.trans (hbe.mono (HSS.out _ hb9))
         clear hkeep hbg hbe hb9 qa9 qo9 qe19 qk19 qb19)
      | (have hq0 := hb8
         clear hq0
         go_at_call 32
         refine (PX.out _).mono ?_
         rintro e w9 ⟨rfl, hq⟩
         have qa9 := qa8.keep hq
         have qo9 := qo8.keep hq
         have qe19 := qe18.keep hq
         have qk19 := qk18.keep hq
         have qb19 := qb18.keep hq
         have hb9 := hb8.trans (hq.mono (HSS.out _ hb8))
         clear hq hb8 qa8 qo8 qe18 qk18 qb18)
      | (refine wpList_load_row rfl 26 (.tmp 1) rfl (S) rfl _ _ _ _ qa8.eq Tryd.underlying26 rfl (by rw [vals_size, La.out]; kernel_rfl) ?_)
      | (refine wpList_load_row rfl 26 (.tmp 4) rfl (gb1) rfl _ _ _ _ qb18.eq Tryd.underlying26 rfl (by rw [vals_size, LB.out]; kernel_rfl) ?_))
    refine wp_fam_all (by kernel_rfl) (by kernel_rfl) (fun I hI' fw hf hback => ?_)
    repeat (first
      | (go_big_quiet_want
         refine quiet_load_seg 26 (.tmp 6) (by rfl) (w11.heap.size) 0 12 (by rfl) 26 .u64 C C _ (fun w' ⟨i, hi⟩ => by rw [hi]; exact qc112.keep (hf i)) Tryd.underlying26 rfl (by kernel_rfl) (by rw [List.drop_zero, take_all LC.out]) (by rw [LC.out]; omega) ?_
         simp only [Act.put, List.setIfInBounds_toArray, List.set_cons_zero, List.set_cons_succ]
         go_big_quiet_on)
      | (go_big_quiet_want
         refine quiet_load_seg 26 (.tmp 3) (by rfl) (S + 2) 0 12 (by rfl) 26 .u64 [1, 0, 0, 0, 0, 0, 0, 0, 0, 0, 0, 0] [1, 0, 0, 0, 0, 0, 0, 0, 0, 0, 0, 0] _ (fun w' ⟨i, hi⟩ => by rw [hi]; exact qe112.keep (hf i)) Tryd.underlying26 rfl (by kernel_rfl) (by rw [List.drop_zero, take_all Le.out]) (by rw [Le.out]; omega) ?_
         simp only [Act.put, List.setIfInBounds_toArray, List.set_cons_zero, List.set_cons_succ]
         go_big_quiet_on)
      | go_big_quiet_step (first | fail | (go_at_call 34; with_reducible exact calls_fam hf hback (PN.out _))))
    refine wpQuiet_nil ?_
    intro w13 hq
    have qa13 := qa12.keep hq
    have qo13 := qo12.keep hq
    have qe113 := qe112.keep hq
    have qk113 := qk112.keep hq
    have qb113 := qb112.keep hq
    have qx113 := qx112.keep hq
    have qc113 := qc112.keep hq
    have hb13 := hb12.trans (hq.mono (HSS.out _ hb12))
    clear hf hback hq hb12 qa12 qo12 qe112 qk112 qb112 qx112 qc112 
    go_wp2_with (first
      | (refine store_abs2 (by rfl) 26 (.tmp 2) (.tmp 25) (by rfl) (by rfl) (S + 1) (vals .u64 R0) (by rfl) (by rfl) 26 _ qo14 (by rw [vals_size, LR0.out]; kernel_rfl) (by first | rfl | (rw [vals_size, vals_size, LR0.out]; rfl) | rw [vals_size, vals_size, LR0.out, Lo.out]) vals_one ?_
         intro w15 qo15 hkeep hbg
         have qa15 := hkeep _ _ _ qa14 (by omega)
         have qe115 := hkeep _ _ _ qe114 (Nat.ne_of_gt Noe1.out)
         have qk115 := hkeep _ _ _ qk114 (Nat.ne_of_gt Nok1.out)
         have qb115 := hkeep _ _ _ qb114 (Nat.ne_of_gt Nob1.out)
         have qx115 := hkeep _ _ _ qx114 (Nat.ne_of_gt Nox1.out)
         have qc115 := hkeep _ _ _ qc114 (Nat.ne_of_gt Noc1.out)
         have hb15 := hb14.trans (hbg.mono (by omega))
         clear hkeep hbg hb14 qa14 qo14 qe114 qk114 qb114 qx114 qc114)
      | (have hq0 := hb13
         clear hq0
         go_at_call 32
         refine (PR.out _).mono ?_
         rintro e w14 ⟨rfl, hq⟩
         have qa14 := qa13.keep hq
         have qo14 := qo13.keep hq
         have qe114 := qe113.keep hq
         have qk114 := qk113.keep hq
         have qb114 := qb113.keep hq
         have qx114 := qx113.keep hq
         have qc114 := qc113.keep hq
         have hb14 := hb13.trans (hq.mono (HSS.out _ hb13))
         clear hq hb13 qa13 qo13 qe113 qk113 qb113 qx113 qc113)
      | (refine wpList_buildTo (by rfl) 26 #[(1, .tmp 23)] (by rfl) (some 24) (by rfl) (vals .u64 [0, 0, 0, 0, 0, 0, 1, 0, 0, 0, 0, 0]) (by kernel_rfl) ?_)
      | (refine wpList_buildTo (by rfl) 24 #[(0, .const (.int .u64 1))] (by rfl) (some 23) (by rfl) (vals .u64 [1, 0, 0, 0, 0, 0]) (by kernel_rfl) ?_)
      | (refine wpList_load_row rfl 26 (.tmp 5) rfl (w9.heap.size) rfl _ _ _ _ qx113.eq Tryd.underlying26 rfl (by rw [vals_size, LX.out]; kernel_rfl) ?_))
    refine bodyPost_ret (v := .agg (vals .u64 R0)) (results_cell_row rfl _ _ (S + 1) _ _ _ _ rfl qo15.eq Tryd.underlying26 rfl (by rw [vals_size, LR0.out]; kernel_rfl)) rfl ⟨rfl, hb15⟩
  · intro w2 hq
    have ok2 := HS.out _ _ hdr hq
    have ra' := ra.keep hq
    have ro' := ro.keep hq
    have re1' := re1.keep hq
    have hbr' := hbr.trans (hq.mono (HSS.out _ hbr))
    clear hbr hq ra ro re1
    have Nab1 : Keep (S < w2.heap.size) := ⟨ra'.lt⟩
    have Nob1 : Keep (S + 1 < w2.heap.size) := ⟨ro'.lt⟩
    have Ne1b1 : Keep (S + 2 < w2.heap.size) := ⟨re1'.lt⟩
    have Mb1 : Keep (S ≤ w2.heap.size) := ⟨HSS.out _ hbr'⟩
    have hal : Below w2.heap.size w2 (w2.alloc (.cells (vals .u64 Fp2.Z12) 26)) := (Below.refl _ _).alloc (Nat.le_refl _) _
    have ok3 := HS.out _ _ ok2 hal
    have ra := ra'.keep hal
    have ro := ro'.keep hal
    have re1 := re1'.keep hal
    have rb1 : Has (w2.alloc (.cells (vals .u64 Fp2.Z12) 26)) w2.heap.size 26 (vals .u64 Fp2.Z12) := Has.new _ _ _
    have hbr := hbr'.trans (hal.mono (HSS.out _ hbr'))
    clear hal hbr' ok2 ra' ro' re1'
    refine wpList_own (by rfl) ?_
    go_wp2
    try refine ⟨ok3, ?_⟩
    obtain ⟨gb1, hgb1⟩ : ∃ g, w2.heap.size = g := ⟨_, rfl⟩
    obtain ⟨w3, hw3⟩ : ∃ x, w2.alloc (.cells (vals .u64 Fp2.Z12) 26) = x := ⟨_, rfl⟩
    change wpAnyU _ _ _ _ _ _ _ _ (w2.alloc (.cells (vals .u64 Fp2.Z12) 26))
    rw [hw3] at ok3 hbr ra ro re1 rb1 ⊢
    rw [hgb1] at rb1 Mb1 Nab1 Nob1 Ne1b1 ⊢
    clear hgb1 hw3
    refine wpAnyU_run (i := 1) (by rfl) (by kernel_rfl) (fun w4 hq => ?_)
    have ok4 := HS.out _ _ ok3 hq
    have ra' := ra.keep hq
    have ro' := ro.keep hq
    have re1' := re1.keep hq
    have rb1' := rb1.keep hq
    have hbr' := hbr.trans (hq.mono (HSS.out _ hbr))
    clear hbr hq ra ro re1 rb1
    refine wpList_own (by rfl) ?_
    go_wp2_with (go_at_call 60
                 refine (refLow_c _).mono ?_
                 rintro e w5 ⟨rfl, rk1, hq⟩
                 have Nak1 : Keep (S < w4.heap.size) := ⟨ra'.lt⟩
                 have Nok1 : Keep (S + 1 < w4.heap.size) := ⟨ro'.lt⟩
                 have Ne1k1 : Keep (S + 2 < w4.heap.size) := ⟨re1'.lt⟩
                 have Nb1k1 : Keep (gb1 < w4.heap.size) := ⟨rb1'.lt⟩
                 have Mk1 : Keep (S ≤ w4.heap.size) := ⟨HSS.out _ hbr'⟩
                 have ok5 := HS.out _ _ ok4 hq
                 have ra := ra'.keep hq
                 have ro := ro'.keep hq
                 have re1 := re1'.keep hq
                 have rb1 := rb1'.keep hq
                 have hbr := hbr'.trans (hq.mono (HSS.out _ hbr'))
                 clear hq hbr' ok4 ra' ro' re1' rb1')
    try refine ⟨ok5, ?_⟩
    have HS5 : Keep (∀ x x' : World, (fun x : World => Below S w x ∧ Has x (S) 26 (vals .u64 a) ∧ Has x (w4.heap.size) 22 (vals .u64 lowL)) x → Below x.heap.size x x' → (fun x : World => Below S w x ∧ Has x (S) 26 (vals .u64 a) ∧ Has x (w4.heap.size) 22 (vals .u64 lowL)) x') := ⟨fun x x' h hb => by
      obtain ⟨hB, ha_, hk1_⟩ := h
      exact ⟨hB.trans (hb.mono (HSS.out _ hB)), ha_.keep hb, hk1_.keep hb⟩⟩
    refine wpAnyU_weaken (S' := (fun x : World => Below S w x ∧ Has x (S) 26 (vals .u64 a) ∧ Has x (w4.heap.size) 22 (vals .u64 lowL))) (fun w h => ⟨h.1, h.2.1⟩) ?_
    have oq5 : (fun x : World => Below S w x ∧ Has x (S) 26 (vals .u64 a) ∧ Has x (w4.heap.size) 22 (vals .u64 lowL)) w5 := ⟨hbr, ra, rk1⟩
    clear ok5 HS
    refine wpAnyU_take (i := 2) (v := .agg (vals .u64 B)) HS5.out (by rfl) (by kernel_rfl) (by kernel_rfl) (by kernel_rfl) (fun _ _ d _ _ h => by cases d <;> exact h) oq5 (Or.inl ⟨by rfl, fun w hw => (by unfold Oper.quietAt; go_simp; exact PL.out _ _ (Rd.of_has (hw.2.2) (hw.2.2).lt (by rfl) (by decide)))⟩) ?_
    simp only [List.getElem_toArray, List.getElem_cons_zero, List.getElem_cons_succ, Act.put, List.setIfInBounds_toArray, List.set_cons_zero, List.set_cons_succ]
    refine wpAnyU_run (i := 4) (by rfl) (by kernel_rfl) (fun w6 hq => ?_)
    have ok6 := HS5.out _ _ oq5 hq
    have ra' := ra.keep hq
    have ro' := ro.keep hq
    have re1' := re1.keep hq
    have rb1' := rb1.keep hq
    have rk1' := rk1.keep hq
    have hbr' := hbr.trans (hq.mono (HSS.out _ hbr))
    clear hbr hq ra ro re1 rb1 rk1
    refine wpList_own (by rfl) ?_
    go_wp2_with (refine store_abs2 (by rfl) 26 (.tmp 4) (.tmp 11) (by rfl) (by rfl) (gb1) (vals .u64 B) (by rfl) (by rfl) 26 _ rb1' (by rw [vals_size, LB.out]; kernel_rfl) (by first | rfl | (rw [vals_size, vals_size, LB.out]; rfl)) vals_one ?_
                 intro w7 rb1 hkeep hbg
                 have ra := hkeep _ _ _ ra' (Nat.ne_of_lt Nab1.out)
                 have ro := hkeep _ _ _ ro' (Nat.ne_of_lt Nob1.out)
                 have re1 := hkeep _ _ _ re1' (Nat.ne_of_lt Ne1b1.out)
                 have rk1 := hkeep _ _ _ rk1' (Nat.ne_of_gt Nb1k1.out)
                 have hbr := hbr'.trans (hbg.mono Mb1.out)
                 clear hkeep hbg hbr' ra' ro' re1' rb1' rk1')
    try refine ⟨⟨hbr, ra, rk1⟩, ?_⟩
    have ok7 : (fun x : World => Below S w x ∧ Has x (S) 26 (vals .u64 a) ∧ Has x (w4.heap.size) 22 (vals .u64 lowL)) w7 := ⟨hbr, ra, rk1⟩
    clear ok6
    refine wpAnyU_end (by kernel_rfl) (fun w8 hq => ?_)
    have qa8 := ra.keep hq
    have qo8 := ro.keep hq
    have qe18 := re1.keep hq
    have qb18 := rb1.keep hq
    have qk18 := rk1.keep hq
    have hb8 := hbr.trans (hq.mono (HSS.out _ hbr))
    clear hq hbr ok7 HS5  ra ro re1 rb1 rk1
    go_wp2_with (first
      | (refine store_abs2 (by rfl) 26 (.tmp 6) (.tmp 17) (by rfl) (by rfl) (w11.heap.size) (vals .u64 C) (by rfl) (by rfl) 26 (vals .u64 Fp2.Z12) (Has.new' _ rfl _ _) (by rw [vals_size, LC.out]; kernel_rfl) (by first | rfl | (rw [vals_size, vals_size, LC.out]; rfl)) vals_one ?_
         intro w12 qc112 hkeep hbg
         have hbe := ((Below.refl (w11).heap.size (w11)).alloc (Nat.le_refl _) (.cells (vals .u64 Fp2.Z12) 26)).trans hbg
         have Nac1 : Keep (S < w11.heap.size) := ⟨qa11.lt⟩
         have Noc1 : Keep (S + 1 < w11.heap.size) := ⟨qo11.lt⟩
         have Ne1c1 : Keep (S + 2 < w11.heap.size) := ⟨qe111.lt⟩
         have Nb1c1 : Keep (gb1 < w11.heap.size) := ⟨qb111.lt⟩
         have Nk1c1 : Keep (w4.heap.size < w11.heap.size) := ⟨qk111.lt⟩
         have Nx1c1 : Keep (w9.heap.size < w11.heap.size) := ⟨qx111.lt⟩
         have Mc1 : Keep (S ≤ w11.heap.size) := ⟨HSS.out _ hb11⟩
         have qa12 := qa11.keep hbe
         have qo12 := qo11.keep hbe
         have qe112 := qe111.keep hbe
         have qb112 := qb111.keep hbe
         have qk112 := qk111.keep hbe
         have qx112 := qx111.keep hbe
         have hb12 := hb11.trans (hbe.mono (HSS.out _ hb11))
         clear hkeep hbg hbe hb11 qa11 qo11 qe111 qb111 qk111 qx111)
      | (have hq0 := hb10
         clear hq0
         go_at_call 32
         refine (PC.out _).mono ?_
         rintro e w11 ⟨rfl, hq⟩
         have qa11 := qa10.keep hq
         have qo11 := qo10.keep hq
         have qe111 := qe110.keep hq
         have qb111 := qb110.keep hq
         have qk111 := qk110.keep hq
         have qx111 := qx110.keep hq
         have hb11 := hb10.trans (hq.mono (HSS.out _ hb10))
         clear hq hb10 qa10 qo10 qe110 qb110 qk110 qx110)
      | (refine wpList_load_row rfl 26 (.tmp 5) rfl (w9.heap.size) rfl _ _ _ _ qx110.eq Tryd.underlying26 rfl (by rw [vals_size, LX.out]; kernel_rfl) ?_)
      | (refine wpList_load_row rfl 26 (.tmp 4) rfl (gb1) rfl _ _ _ _ qb110.eq Tryd.underlying26 rfl (by rw [vals_size, LB.out]; kernel_rfl) ?_)
      | (refine store_abs2 (by rfl) 26 (.tmp 5) (.tmp 14) (by rfl) (by rfl) (w9.heap.size) (vals .u64 X) (by rfl) (by rfl) 26 (vals .u64 Fp2.Z12) (Has.new' _ rfl _ _) (by rw [vals_size, LX.out]; kernel_rfl) (by first | rfl | (rw [vals_size, vals_size, LX.out]; rfl)) vals_one ?_
         intro w10 qx110 hkeep hbg
         have hbe := ((Below.refl (w9).heap.size (w9)).alloc (Nat.le_refl _) (.cells (vals .u64 Fp2.Z12) 26)).trans hbg
         have Nax1 : Keep (S < w9.heap.size) := ⟨qa9.lt⟩
         have Nox1 : Keep (S + 1 < w9.heap.size) := ⟨qo9.lt⟩
         have Ne1x1 : Keep (S + 2 < w9.heap.size) := ⟨qe19.lt⟩
         have Nb1x1 : Keep (gb1 < w9.heap.size) := ⟨qb19.lt⟩
         have Nk1x1 : Keep (w4.heap.size < w9.heap.size) := ⟨qk19.lt⟩
         have Mx1 : Keep (S ≤ w9.heap.size) := ⟨HSS.out _ hb9⟩
         have qa10 := qa9.keep hbe
         have qo10 := qo9.keep hbe
         have qe110 := qe19.keep hbe
         have qb110 := qb19.keep hbe
         have qk110 := qk19.keep hbe
         have hb10 := hb9.trans (hbe.mono (HSS.out _ hb9))
         clear hkeep hbg hbe hb9 qa9 qo9 qe19 qb19 qk19)
      | (have hq0 := hb8
         clear hq0
         go_at_call 32
         refine (PX.out _).mono ?_
         rintro e w9 ⟨rfl, hq⟩
         have qa9 := qa8.keep hq
         have qo9 := qo8.keep hq
         have qe19 := qe18.keep hq
         have qb19 := qb18.keep hq
         have qk19 := qk18.keep hq
         have hb9 := hb8.trans (hq.mono (HSS.out _ hb8))
         clear hq hb8 qa8 qo8 qe18 qb18 qk18)
      | (refine wpList_load_row rfl 26 (.tmp 1) rfl (S) rfl _ _ _ _ qa8.eq Tryd.underlying26 rfl (by rw [vals_size, La.out]; kernel_rfl) ?_)
      | (refine wpList_load_row rfl 26 (.tmp 4) rfl (gb1) rfl _ _ _ _ qb18.eq Tryd.underlying26 rfl (by rw [vals_size, LB.out]; kernel_rfl) ?_))
    refine wp_fam_all (by kernel_rfl) (by kernel_rfl) (fun I hI' fw hf hback => ?_)
    repeat (first
      | (go_big_quiet_want
         refine quiet_load_seg 26 (.tmp 6) (by rfl) (w11.heap.size) 0 12 (by rfl) 26 .u64 C C _ (fun w' ⟨i, hi⟩ => by rw [hi]; exact qc112.keep (hf i)) Tryd.underlying26 rfl (by kernel_rfl) (by rw [List.drop_zero, take_all LC.out]) (by rw [LC.out]; omega) ?_
         simp only [Act.put, List.setIfInBounds_toArray, List.set_cons_zero, List.set_cons_succ]
         go_big_quiet_on)
      | (go_big_quiet_want
         refine quiet_load_seg 26 (.tmp 3) (by rfl) (S + 2) 0 12 (by rfl) 26 .u64 [1, 0, 0, 0, 0, 0, 0, 0, 0, 0, 0, 0] [1, 0, 0, 0, 0, 0, 0, 0, 0, 0, 0, 0] _ (fun w' ⟨i, hi⟩ => by rw [hi]; exact qe112.keep (hf i)) Tryd.underlying26 rfl (by kernel_rfl) (by rw [List.drop_zero, take_all Le.out]) (by rw [Le.out]; omega) ?_
         simp only [Act.put, List.setIfInBounds_toArray, List.set_cons_zero, List.set_cons_succ]
         go_big_quiet_on)
      | go_big_quiet_step (first | fail | (go_at_call 34; with_reducible exact calls_fam hf hback (PN.out _))))
    refine wpQuiet_nil ?_
    intro w13 hq
    have qa13 := qa12.keep hq
    have qo13 := qo12.keep hq
    have qe113 := qe112.keep hq
    have qb113 := qb112.keep hq
    have qk113 := qk112.keep hq
    have qx113 := qx112.keep hq
    have qc113 := qc112.keep hq
    have hb13 := hb12.trans (hq.mono (HSS.out _ hb12))
    clear hf hback hq hb12 qa12 qo12 qe112 qb112 qk112 qx112 qc112 
    go_wp2_with (first
      | (refine store_abs2 (by rfl) 26 (.tmp 2) (.tmp 25) (by rfl) (by rfl) (S + 1) (vals .u64 R0) (by rfl) (by rfl) 26 _ qo14 (by rw [vals_size, LR0.out]; kernel_rfl) (by first | rfl | (rw [vals_size, vals_size, LR0.out]; rfl) | rw [vals_size, vals_size, LR0.out, Lo.out]) vals_one ?_
         intro w15 qo15 hkeep hbg
         have qa15 := hkeep _ _ _ qa14 (by omega)
         have qe115 := hkeep _ _ _ qe114 (Nat.ne_of_gt Noe1.out)
         have qb115 := hkeep _ _ _ qb114 (Nat.ne_of_gt Nob1.out)
         have qk115 := hkeep _ _ _ qk114 (Nat.ne_of_gt Nok1.out)
         have qx115 := hkeep _ _ _ qx114 (Nat.ne_of_gt Nox1.out)
         have qc115 := hkeep _ _ _ qc114 (Nat.ne_of_gt Noc1.out)
         have hb15 := hb14.trans (hbg.mono (by omega))
         clear hkeep hbg hb14 qa14 qo14 qe114 qb114 qk114 qx114 qc114)
      | (have hq0 := hb13
         clear hq0
         go_at_call 32
         refine (PR.out _).mono ?_
         rintro e w14 ⟨rfl, hq⟩
         have qa14 := qa13.keep hq
         have qo14 := qo13.keep hq
         have qe114 := qe113.keep hq
         have qb114 := qb113.keep hq
         have qk114 := qk113.keep hq
         have qx114 := qx113.keep hq
         have qc114 := qc113.keep hq
         have hb14 := hb13.trans (hq.mono (HSS.out _ hb13))
         clear hq hb13 qa13 qo13 qe113 qb113 qk113 qx113 qc113)
      | (refine wpList_buildTo (by rfl) 26 #[(1, .tmp 23)] (by rfl) (some 24) (by rfl) (vals .u64 [0, 0, 0, 0, 0, 0, 1, 0, 0, 0, 0, 0]) (by kernel_rfl) ?_)
      | (refine wpList_buildTo (by rfl) 24 #[(0, .const (.int .u64 1))] (by rfl) (some 23) (by rfl) (vals .u64 [1, 0, 0, 0, 0, 0]) (by kernel_rfl) ?_)
      | (refine wpList_load_row rfl 26 (.tmp 5) rfl (w9.heap.size) rfl _ _ _ _ qx113.eq Tryd.underlying26 rfl (by rw [vals_size, LX.out]; kernel_rfl) ?_))
    refine bodyPost_ret (v := .agg (vals .u64 R0)) (results_cell_row rfl _ _ (S + 1) _ _ _ _ rfl qo15.eq Tryd.underlying26 rfl (by rw [vals_size, LR0.out]; kernel_rfl)) rfl ⟨rfl, hb15⟩

set_option maxRecDepth 100000 in
set_option maxHeartbeats 4000000 in
theorem rRoot_b (a : List Int) (ha : Nm 12 a) (h : ¬ rt.E2 (gm (gp (v2 a) LL) (gm (gp (v2 a) LL) (v2 a))) (-1, 0) = true) (w : World) : Calls Tryd.prog 31 #[.agg (vals .u64 a)] w fun e w' => e = .returned (.agg (vals .u64 (F2 (rt LL (v2 a))))) ∧ Below w.heap.size w w' := by
  obtain ⟨B, hB⟩ : ∃ o, F2 (gp (v2 a) LL) = o := ⟨_, rfl⟩
  have nB : Nm 12 B := hB ▸ .F2 _
  have LB : Keep (B.length = 12) := ⟨nB.len⟩
  obtain ⟨X, hX⟩ : ∃ o, F2 (gm (v2 B) (v2 a)) = o := ⟨_, rfl⟩
  have nX : Nm 12 X := hX ▸ .F2 _
  have LX : Keep (X.length = 12) := ⟨nX.len⟩
  obtain ⟨C, hC⟩ : ∃ o, F2 (gm (v2 B) (v2 X)) = o := ⟨_, rfl⟩
  have nC : Nm 12 C := hC ▸ .F2 _
  have LC : Keep (C.length = 12) := ⟨nC.len⟩
  obtain ⟨M, hM⟩ : ∃ o, F2 (gn (v2 [1, 0, 0, 0, 0, 0, 0, 0, 0, 0, 0, 0])) = o := ⟨_, rfl⟩
  have nM : Nm 12 M := hM ▸ .F2 _
  have LM : Keep (M.length = 12) := ⟨nM.len⟩
  have PL : Keep (∀ (x : World) (A : Option Addr), Rd x x.heap.size A 6 .u64 lowL → Calls Tryd.prog 59 #[.agg (vals .u64 a), .slice A 6 6] x fun e x' => e = .returned (.agg (vals .u64 B)) ∧ Below x.heap.size x x') := ⟨fun x A h => by
    have h1 := refPow2 a ha A 6 6 lowL x.heap.size x h lowL_words (Nat.le_refl _) (by omega)
    rw [lowL_num, hB] at h1
    exact h1⟩
  have PX : Keep (∀ x : World, _) := ⟨fun x => refMul2 B nB a ha x⟩
  rw [hX] at PX
  have PC : Keep (∀ x : World, _) := ⟨fun x => refMul2 B nB X nX x⟩
  rw [hC] at PC
  have PN : Keep (∀ x : World, _) := ⟨fun x => refNeg2 [1, 0, 0, 0, 0, 0, 0, 0, 0, 0, 0, 0] O12_nm x⟩
  rw [hM] at PN
  have hE : C ≠ M := fun e => h ((val_e hB hX hC hM).1 e)
  obtain ⟨Y, hY⟩ : ∃ o, F2 (ga (v2 [1, 0, 0, 0, 0, 0, 0, 0, 0, 0, 0, 0]) (v2 C)) = o := ⟨_, rfl⟩
  have nY : Nm 12 Y := hY ▸ .F2 _
  have LY : Keep (Y.length = 12) := ⟨nY.len⟩
  obtain ⟨Z, hZ⟩ : ∃ o, F2 (gp (v2 Y) (2 * LL + 1)) = o := ⟨_, rfl⟩
  have nZ : Nm 12 Z := hZ ▸ .F2 _
  have LZ : Keep (Z.length = 12) := ⟨nZ.len⟩
  obtain ⟨R0, hR0⟩ : ∃ o, F2 (gm (v2 Z) (v2 X)) = o := ⟨_, rfl⟩
  have nR0 : Nm 12 R0 := hR0 ▸ .F2 _
  have LR0 : Keep (R0.length = 12) := ⟨nR0.len⟩
  have HR := val_rb hB hX hC h hY hZ
  have PY : Keep (∀ x : World, _) := ⟨fun x => refAdd2 [1, 0, 0, 0, 0, 0, 0, 0, 0, 0, 0, 0] O12_nm C nC x⟩
  rw [hY] at PY
  have PZ : Keep (∀ (x : World) (A : Option Addr), Rd x x.heap.size A 6 .u64 halfL → Calls Tryd.prog 59 #[.agg (vals .u64 Y), .slice A 6 6] x fun e x' => e = .returned (.agg (vals .u64 Z)) ∧ Below x.heap.size x x') := ⟨fun x A h => by
    have h1 := refPow2 Y nY A 6 6 halfL x.heap.size x h halfL_words (Nat.le_refl _) (by omega)
    rw [halfL_num, hZ] at h1
    exact h1⟩
  have PR : Keep (∀ x : World, _) := ⟨fun x => refMul2 Z nZ X nX x⟩
  rw [hR0] at PR
  rw [hR0] at HR
  rw [← HR]
  have E1 := neq12 nC.len nM.len hE
  have hgd := gd2
  have Le : Keep (List.length ([1, 0, 0, 0, 0, 0, 0, 0, 0, 0, 0, 0] : List Int) = 12) := ⟨rfl⟩
  have Lq : Keep (lowL.length = 6) := ⟨rfl⟩
  have Lh : Keep (halfL.length = 6) := ⟨rfl⟩
  have La : Keep (a.length = 12) := ⟨ha.len⟩
  have Lo : Keep (Fp2.Z12.length = 12) := ⟨rfl⟩
  obtain ⟨S, hS⟩ : ∃ S, w.heap.size = S := ⟨_, rfl⟩
  have qa0 : Has ((w.alloc (.cells (vals .u64 a) 26)).alloc (.cells (vals .u64 Fp2.Z12) 26)) (S) 26 (vals .u64 a) := by exact ((Has.new' _ hS.symm _ _).alloc _)
  have qo0 : Has ((w.alloc (.cells (vals .u64 a) 26)).alloc (.cells (vals .u64 Fp2.Z12) 26)) (S + 1) 26 (vals .u64 Fp2.Z12) := by exact (Has.new' _ (by simp only [World.size_alloc, hS]) _ _)
  have hb0 : Below S w ((w.alloc (.cells (vals .u64 a) 26)).alloc (.cells (vals .u64 Fp2.Z12) 26)) := by rw [← hS]; exact (((Below.refl _ _).alloc (Nat.le_refl _) _).alloc (by simp) _)
  have hsz0 : ((w.alloc (.cells (vals .u64 a) 26)).alloc (.cells (vals .u64 Fp2.Z12) 26)).heap.size = S + 2 := by simp only [World.size_alloc, hS]
  have HS0 : Keep (S ≤ w.heap.size) := ⟨by omega⟩
  have HSS : Keep (∀ x : World, Below S w x → S ≤ x.heap.size) := ⟨fun x hb => Nat.le_trans HS0.out hb.size⟩
  rw [hS]
  clear h hB hX hC hR0 nB nX nC nR0 HR ha hM hY hZ nY nZ nM hE
  go_enter Tryd.func31, Tryd.ntmps31
  go_wp2_with (first
    | (refine store_abs2 (by rfl) 26 (.tmp 3) (.tmp 8) (by rfl) (by rfl) (S + 2) (vals .u64 [1, 0, 0, 0, 0, 0, 0, 0, 0, 0, 0, 0]) (by rfl) (by rfl) 26 (vals .u64 Fp2.Z12) (Has.new' _ (by simp only [World.size_alloc, hS]) _ _) (by rw [vals_size, Le.out]; kernel_rfl) (by first | rfl | (rw [vals_size, vals_size, Le.out]; rfl)) vals_one ?_
       intro w1 qe11 hkeep hbg
       have hbe := ((Below.refl (((w.alloc (.cells (vals .u64 a) 26)).alloc (.cells (vals .u64 Fp2.Z12) 26))).heap.size (((w.alloc (.cells (vals .u64 a) 26)).alloc (.cells (vals .u64 Fp2.Z12) 26)))).alloc (Nat.le_refl _) (.cells (vals .u64 Fp2.Z12) 26)).trans (by rw [hsz0]; exact hbg)
       have Nae1 : Keep (S < S + 2) := ⟨by rw [← hsz0]; exact qa0.lt⟩
       have Noe1 : Keep (S + 1 < S + 2) := ⟨by rw [← hsz0]; exact qo0.lt⟩
       have Me1 : Keep (S ≤ S + 2) := ⟨by omega⟩
       have qa1 := qa0.keep hbe
       have qo1 := qo0.keep hbe
       have hb1 := hb0.trans (hbe.mono (HSS.out _ hb0))
       clear hkeep hbg hbe hb0 qa0 qo0)
    | (refine wpList_buildTo (by rfl) 26 #[(0, .tmp 7)] (by rfl) (some 8) (by rfl) (vals .u64 [1, 0, 0, 0, 0, 0, 0, 0, 0, 0, 0, 0]) (by kernel_rfl) ?_)
    | (refine wpList_buildTo (by rfl) 24 #[(0, .const (.int .u64 1))] (by rfl) (some 7) (by rfl) (vals .u64 [1, 0, 0, 0, 0, 0]) (by kernel_rfl) ?_))
  have HS : Keep (∀ x x' : World, (fun x : World => Below S w x ∧ Has x (S) 26 (vals .u64 a)) x → Below x.heap.size x x' → (fun x : World => Below S w x ∧ Has x (S) 26 (vals .u64 a)) x') := ⟨fun x x' h hb => by
    obtain ⟨hB, ha_⟩ := h
    exact ⟨hB.trans (hb.mono (HSS.out _ hB)), ha_.keep hb⟩⟩
  have hdr : (fun x : World => Below S w x ∧ Has x (S) 26 (vals .u64 a)) w1.drew := HS.out _ _ ⟨hb1, qa1⟩ ⟨rfl, rfl, rfl, Nat.le_refl _, fun _ _ => rfl⟩
  have hbd : Below w1.heap.size w1 w1.drew := ⟨rfl, rfl, rfl, Nat.le_refl _, fun _ _ => rfl⟩
  refine wp_regionU (S := (fun x : World => Below S w x ∧ Has x (S) 26 (vals .u64 a))) (by kernel_rfl) ?_
  change wpAnyU _ _ _ _ _ 5 _ _ _
  have ra := qa1.keep hbd
  have ro := qo1.keep hbd
  have re1 := qe11.keep hbd
  have hbr := hb1.trans (hbd.mono (HSS.out _ hb1))
  clear hbd hb1 qa1 qo1 qe11
  refine wpAnyU_take (i := 0) (v := _) HS.out (by rfl) (by kernel_rfl) (by kernel_rfl) (by kernel_rfl) (fun _ _ d _ _ h => by cases d <;> exact h) hdr (Steady.load_seg (by rfl) 26 (.tmp 1) (by rfl) (S) 0 12 (by rfl) 26 .u64 a a _ (fun w hw => hw.2) Tryd.underlying26 rfl (by kernel_rfl) (by rw [List.drop_zero, take_all La.out]) (by rw [La.out]; omega)) ?_
  simp only [List.getElem_toArray, List.getElem_cons_zero, List.getElem_cons_succ, Act.put, List.setIfInBounds_toArray, List.set_cons_zero, List.set_cons_succ]
  refine wpAnyU_two (i := 1) (k := 3) (by rfl) (by rfl) (by kernel_rfl) ?_ ?_
  · intro w2 hq
    have ok2 := HS.out _ _ hdr hq
    have ra' := ra.keep hq
    have ro' := ro.keep hq
    have re1' := re1.keep hq
    have hbr' := hbr.trans (hq.mono (HSS.out _ hbr))
    clear hbr hq ra ro re1
    refine wpList_own (by rfl) ?_
    go_wp2_with (go_at_call 60
                 refine (refLow_c _).mono ?_
                 rintro e w3 ⟨rfl, rk1, hq⟩
                 have Nak1 : Keep (S < w2.heap.size) := ⟨ra'.lt⟩
                 have Nok1 : Keep (S + 1 < w2.heap.size) := ⟨ro'.lt⟩
                 have Ne1k1 : Keep (S + 2 < w2.heap.size) := ⟨re1'.lt⟩
                 have Mk1 : Keep (S ≤ w2.heap.size) := ⟨HSS.out _ hbr'⟩
                 have ok3 := HS.out _ _ ok2 hq
                 have ra := ra'.keep hq
                 have ro := ro'.keep hq
                 have re1 := re1'.keep hq
                 have hbr := hbr'.trans (hq.mono (HSS.out _ hbr'))
                 clear hq hbr' ok2 ra' ro' re1')
    try refine ⟨ok3, ?_⟩
    have HS3 : Keep (∀ x x' : World, (fun x : World => Below S w x ∧ Has x (S) 26 (vals .u64 a) ∧ Has x (w2.heap.size) 22 (vals .u64 lowL)) x → Below x.heap.size x x' → (fun x : World => Below S w x ∧ Has x (S) 26 (vals .u64 a) ∧ Has x (w2.heap.size) 22 (vals .u64 lowL)) x') := ⟨fun x x' h hb => by
      obtain ⟨hB, ha_, hk1_⟩ := h
      exact ⟨hB.trans (hb.mono (HSS.out _ hB)), ha_.keep hb, hk1_.keep hb⟩⟩
    refine wpAnyU_weaken (S' := (fun x : World => Below S w x ∧ Has x (S) 26 (vals .u64 a) ∧ Has x (w2.heap.size) 22 (vals .u64 lowL))) (fun w h => ⟨h.1, h.2.1⟩) ?_
    have oq3 : (fun x : World => Below S w x ∧ Has x (S) 26 (vals .u64 a) ∧ Has x (w2.heap.size) 22 (vals .u64 lowL)) w3 := ⟨hbr, ra, rk1⟩
    clear ok3 HS
    refine wpAnyU_take (i := 2) (v := .agg (vals .u64 B)) HS3.out (by rfl) (by kernel_rfl) (by kernel_rfl) (by kernel_rfl) (fun _ _ d _ _ h => by cases d <;> exact h) oq3 (Or.inl ⟨by rfl, fun w hw => (by unfold Oper.quietAt; go_simp; exact PL.out _ _ (Rd.of_has (hw.2.2) (hw.2.2).lt (by rfl) (by decide)))⟩) ?_
    simp only [List.getElem_toArray, List.getElem_cons_zero, List.getElem_cons_succ, Act.put, List.setIfInBounds_toArray, List.set_cons_zero, List.set_cons_succ]
    refine wpAnyU_run (i := 3) (by rfl) (by kernel_rfl) (fun w4 hq => ?_)
    have ok4 := HS3.out _ _ oq3 hq
    have ra' := ra.keep hq
    have ro' := ro.keep hq
    have re1' := re1.keep hq
    have rk1' := rk1.keep hq
    have hbr' := hbr.trans (hq.mono (HSS.out _ hbr))
    clear hbr hq ra ro re1 rk1
    have Nab1 : Keep (S < w4.heap.size) := ⟨ra'.lt⟩
    have Nob1 : Keep (S + 1 < w4.heap.size) := ⟨ro'.lt⟩
    have Ne1b1 : Keep (S + 2 < w4.heap.size) := ⟨re1'.lt⟩
    have Nk1b1 : Keep (w2.heap.size < w4.heap.size) := ⟨rk1'.lt⟩
    have Mb1 : Keep (S ≤ w4.heap.size) := ⟨HSS.out _ hbr'⟩
    have hal : Below w4.heap.size w4 (w4.alloc (.cells (vals .u64 Fp2.Z12) 26)) := (Below.refl _ _).alloc (Nat.le_refl _) _
    have ok5 := HS3.out _ _ ok4 hal
    have ra := ra'.keep hal
    have ro := ro'.keep hal
    have re1 := re1'.keep hal
    have rk1 := rk1'.keep hal
    have rb1 : Has (w4.alloc (.cells (vals .u64 Fp2.Z12) 26)) w4.heap.size 26 (vals .u64 Fp2.Z12) := Has.new _ _ _
    have hbr := hbr'.trans (hal.mono (HSS.out _ hbr'))
    clear hal hbr' ok4 ra' ro' re1' rk1'
    refine wpList_own (by rfl) ?_
    go_wp2
    try refine ⟨ok5, ?_⟩
    obtain ⟨gb1, hgb1⟩ : ∃ g, w4.heap.size = g := ⟨_, rfl⟩
    obtain ⟨w5, hw5⟩ : ∃ x, w4.alloc (.cells (vals .u64 Fp2.Z12) 26) = x := ⟨_, rfl⟩
    change wpAnyU _ _ _ _ _ _ _ _ (w4.alloc (.cells (vals .u64 Fp2.Z12) 26))
    rw [hw5] at ok5 hbr ra ro re1 rk1 rb1 ⊢
    rw [hgb1] at rb1 Mb1 Nab1 Nob1 Ne1b1 Nk1b1 ⊢
    clear hgb1 hw5
    refine wpAnyU_run (i := 4) (by rfl) (by kernel_rfl) (fun w6 hq => ?_)
    have ok6 := HS3.out _ _ ok5 hq
    have ra' := ra.keep hq
    have ro' := ro.keep hq
    have re1' := re1.keep hq
    have rk1' := rk1.keep hq
    have rb1' := rb1.keep hq
    have hbr' := hbr.trans (hq.mono (HSS.out _ hbr))
    clear hbr hq ra ro re1 rk1 rb1
    refine wpList_own (by rfl) ?_
    go_wp2_with (refine store_abs2 (by rfl) 26 (.tmp 4) (.tmp 11) (by rfl) (by rfl) (gb1) (vals .u64 B) (by rfl) (by rfl) 26 _ rb1' (by rw [vals_size, LB.out]; kernel_rfl) (by first | rfl | (rw [vals_size, vals_size, LB.out]; rfl)) vals_one ?_
                 intro w7 rb1 hkeep hbg
                 have ra := hkeep _ _ _ ra' (Nat.ne_of_lt Nab1.out)
                 have ro := hkeep _ _ _ ro' (Nat.ne_of_lt Nob1.out)
                 have re1 := hkeep _ _ _ re1' (Nat.ne_of_lt Ne1b1.out)
                 have rk1 := hkeep _ _ _ rk1' (Nat.ne_of_lt Nk1b1.out)
                 have hbr := hbr'.trans (hbg.mono Mb1.out)
                 clear hkeep hbg hbr' ra' ro' re1' rk1' rb1')
    try refine ⟨⟨hbr, ra, rk1⟩, ?_⟩
    have ok7 : (fun x : World => Below S w x ∧ Has x (S) 26 (vals .u64 a) ∧ Has x (w2.heap.size) 22 (vals .u64 lowL)) w7 := ⟨hbr, ra, rk1⟩
    clear ok6
    refine wpAnyU_end (by kernel_rfl) (fun w8 hq => ?_)
    have qa8 := ra.keep hq
    have qo8 := ro.keep hq
    have qe18 := re1.keep hq
    have qk18 := rk1.keep hq
    have qb18 := rb1.keep hq
    have hb8 := hbr.trans (hq.mono (HSS.out _ hbr))
    clear hq hbr ok7 HS3  ra ro re1 rk1 rb1
    go_wp2_with (first
      | (refine store_abs2 (by rfl) 26 (.tmp 6) (.tmp 17) (by rfl) (by rfl) (w11.heap.size) (vals .u64 C) (by rfl) (by rfl) 26 (vals .u64 Fp2.Z12) (Has.new' _ rfl _ _) (by rw [vals_size, LC.out]; kernel_rfl) (by first | rfl | (rw [vals_size, vals_size, LC.out]; rfl)) vals_one ?_
         intro w12 qc112 hkeep hbg
         have hbe := ((Below.refl (w11).heap.size (w11)).alloc (Nat.le_refl _) (.cells (vals .u64 Fp2.Z12) 26)).trans hbg
         have Nac1 : Keep (S < w11.heap.size) := ⟨qa11.lt⟩
         have Noc1 : Keep (S + 1 < w11.heap.size) := ⟨qo11.lt⟩
         have Ne1c1 : Keep (S + 2 < w11.heap.size) := ⟨qe111.lt⟩
         have Nk1c1 : Keep (w2.heap.size < w11.heap.size) := ⟨qk111.lt⟩
         have Nb1c1 : Keep (gb1 < w11.heap.size) := ⟨qb111.lt⟩
         have Nx1c1 : Keep (w9.heap.size < w11.heap.size) := ⟨qx111.lt⟩
         have Mc1 : Keep (S ≤ w11.heap.size) := ⟨HSS.out _ hb11⟩
         have qa12 := qa11.keep hbe
         have qo12 := qo11.keep hbe
         have qe112 := qe111.keep hbe
         have qk112 := qk111.keep hbe
         have qb112 := qb111.keep hbe
         have qx112 := qx111.keep hbe
         have hb12 := hb11.trans (hbe.mono (HSS.out _ hb11))
         clear hkeep hbg hbe hb11 qa11 qo11 qe111 qk111 qb111 qx111)
      | (have hq0 := hb10
         clear hq0
         go_at_call 32
         refine (PC.out _).mono ?_
         rintro e w11 ⟨rfl, hq⟩
         have qa11 := qa10.keep hq
         have qo11 := qo10.keep hq
         have qe111 := qe110.keep hq
         have qk111 := qk110.keep hq
         have qb111 := qb110.keep hq
         have qx111 := qx110.keep hq
         have hb11 := hb10.trans (hq.mono (HSS.out _ hb10))
         clear hq hb10 qa10 qo10 qe110 qk110 qb110 qx110)
      | (refine wpList_load_row rfl 26 (.tmp 5) rfl (w9.heap.size) rfl _ _ _ _ qx110.eq Tryd.underlying26 rfl (by rw [vals_size, LX.out]; kernel_rfl) ?_)
      | (refine wpList_load_row rfl 26 (.tmp 4) rfl (gb1) rfl _ _ _ _ qb110.eq Tryd.underlying26 rfl (by rw [vals_size, LB.out]; kernel_rfl) ?_)
      | (refine store_abs2 (by rfl) 26 (.tmp 5) (.tmp 14) (by rfl) (by rfl) (w9.heap.size) (vals .u64 X) (by rfl) (by rfl) 26 (vals .u64 Fp2.Z12) (Has.new' _ rfl _ _) (by rw [vals_size, LX.out]; kernel_rfl) (by first | rfl | (rw [vals_size, vals_size, LX.out]; rfl)) vals_one ?_
         intro w10 qx110 hkeep hbg
         have hbe := ((Below.refl (w9).heap.size (w9)).alloc (Nat.le_refl _) (.cells (vals .u64 Fp2.Z12) 26)).trans hbg
         have Nax1 : Keep (S < w9.heap.size) := ⟨qa9.lt⟩
         have Nox1 : Keep (S + 1 < w9.heap.size) := ⟨qo9.lt⟩
         have Ne1x1 : Keep (S + 2 < w9.heap.size) := ⟨qe19.lt⟩
         have Nk1x1 : Keep (w2.heap.size < w9.heap.size) := ⟨qk19.lt⟩
         have Nb1x1 : Keep (gb1 < w9.heap.size) := ⟨qb19.lt⟩
         have Mx1 : Keep (S ≤ w9.heap.size) := ⟨HSS.out _ hb9⟩
         have qa10 := qa9.keep hbe
         have qo10 := qo9.keep hbe
         have qe110 := qe19.keep hbe
         have qk110 := qk19.keep hbe
         have qb110 := qb19.keep hbe
         have hb10 := hb9.trans (hbe.mono (HSS.out _ hb9))
         clear hkeep hbg hbe hb9 qa9 qo9 qe19 qk19 qb19)
      | (have hq0 := hb8
         clear hq0
         go_at_call 32
         refine (PX.out _).mono ?_
         rintro e w9 ⟨rfl, hq⟩
         have qa9 := qa8.keep hq
         have qo9 := qo8.keep hq
         have qe19 := qe18.keep hq
         have qk19 := qk18.keep hq
         have qb19 := qb18.keep hq
         have hb9 := hb8.trans (hq.mono (HSS.out _ hb8))
         clear hq hb8 qa8 qo8 qe18 qk18 qb18)
      | (refine wpList_load_row rfl 26 (.tmp 1) rfl (S) rfl _ _ _ _ qa8.eq Tryd.underlying26 rfl (by rw [vals_size, La.out]; kernel_rfl) ?_)
      | (refine wpList_load_row rfl 26 (.tmp 4) rfl (gb1) rfl _ _ _ _ qb18.eq Tryd.underlying26 rfl (by rw [vals_size, LB.out]; kernel_rfl) ?_))
    refine wp_fam_all (by kernel_rfl) (by kernel_rfl) (fun I hI' fw hf hback => ?_)
    repeat (first
      | (go_big_quiet_want
         refine quiet_load_seg 26 (.tmp 6) (by rfl) (w11.heap.size) 0 12 (by rfl) 26 .u64 C C _ (fun w' ⟨i, hi⟩ => by rw [hi]; exact qc112.keep (hf i)) Tryd.underlying26 rfl (by kernel_rfl) (by rw [List.drop_zero, take_all LC.out]) (by rw [LC.out]; omega) ?_
         simp only [Act.put, List.setIfInBounds_toArray, List.set_cons_zero, List.set_cons_succ]
         go_big_quiet_on)
      | (go_big_quiet_want
         refine quiet_load_seg 26 (.tmp 3) (by rfl) (S + 2) 0 12 (by rfl) 26 .u64 [1, 0, 0, 0, 0, 0, 0, 0, 0, 0, 0, 0] [1, 0, 0, 0, 0, 0, 0, 0, 0, 0, 0, 0] _ (fun w' ⟨i, hi⟩ => by rw [hi]; exact qe112.keep (hf i)) Tryd.underlying26 rfl (by kernel_rfl) (by rw [List.drop_zero, take_all Le.out]) (by rw [Le.out]; omega) ?_
         simp only [Act.put, List.setIfInBounds_toArray, List.set_cons_zero, List.set_cons_succ]
         go_big_quiet_on)
      | go_big_quiet_step (first | fail | (go_at_call 34; with_reducible exact calls_fam hf hback (PN.out _))))
    refine wpQuiet_nil ?_
    intro w13 hq
    have qa13 := qa12.keep hq
    have qo13 := qo12.keep hq
    have qe113 := qe112.keep hq
    have qk113 := qk112.keep hq
    have qb113 := qb112.keep hq
    have qx113 := qx112.keep hq
    have qc113 := qc112.keep hq
    have hb13 := hb12.trans (hq.mono (HSS.out _ hb12))
    clear hf hback hq hb12 qa12 qo12 qe112 qk112 qb112 qx112 qc112 
    go_wp2
    have HS : Keep (∀ x x' : World, (fun x : World => Below S w x ∧ Has x (S + 2) 26 (vals .u64 [1, 0, 0, 0, 0, 0, 0, 0, 0, 0, 0, 0]) ∧ Has x (w11.heap.size) 26 (vals .u64 C) ∧ Has x (w9.heap.size) 26 (vals .u64 X)) x → Below x.heap.size x x' → (fun x : World => Below S w x ∧ Has x (S + 2) 26 (vals .u64 [1, 0, 0, 0, 0, 0, 0, 0, 0, 0, 0, 0]) ∧ Has x (w11.heap.size) 26 (vals .u64 C) ∧ Has x (w9.heap.size) 26 (vals .u64 X)) x') := ⟨fun x x' h hb => by
      obtain ⟨hB, he1_, hc1_, hx1_⟩ := h
      exact ⟨hB.trans (hb.mono (HSS.out _ hB)), he1_.keep hb, hc1_.keep hb, hx1_.keep hb⟩⟩
    have hdr : (fun x : World => Below S w x ∧ Has x (S + 2) 26 (vals .u64 [1, 0, 0, 0, 0, 0, 0, 0, 0, 0, 0, 0]) ∧ Has x (w11.heap.size) 26 (vals .u64 C) ∧ Has x (w9.heap.size) 26 (vals .u64 X)) w13.drew := HS.out _ _ ⟨hb13, qe113, qc113, qx113⟩ ⟨rfl, rfl, rfl, Nat.le_refl _, fun _ _ => rfl⟩
    have hbd : Below w13.heap.size w13 w13.drew := ⟨rfl, rfl, rfl, Nat.le_refl _, fun _ _ => rfl⟩
    refine wp_regionU (S := (fun x : World => Below S w x ∧ Has x (S + 2) 26 (vals .u64 [1, 0, 0, 0, 0, 0, 0, 0, 0, 0, 0, 0]) ∧ Has x (w11.heap.size) 26 (vals .u64 C) ∧ Has x (w9.heap.size) 26 (vals .u64 X))) (by kernel_rfl) ?_
    change wpAnyU _ _ _ _ _ 8 _ _ _
    have ra := qa13.keep hbd
    have ro := qo13.keep hbd
    have re1 := qe113.keep hbd
    have rk1 := qk113.keep hbd
    have rb1 := qb113.keep hbd
    have rx1 := qx113.keep hbd
    have rc1 := qc113.keep hbd
    have hbr := hb13.trans (hbd.mono (HSS.out _ hb13))
    clear hbd hb13 qa13 qo13 qe113 qk113 qb113 qx113 qc113
    refine wpAnyU_take (i := 0) (v := _) HS.out (by rfl) (by kernel_rfl) (by kernel_rfl) (by kernel_rfl) (fun _ _ d _ _ h => by cases d <;> exact h) hdr (Steady.load_seg (by rfl) 26 (.tmp 3) (by rfl) (S + 2) 0 12 (by rfl) 26 .u64 [1, 0, 0, 0, 0, 0, 0, 0, 0, 0, 0, 0] [1, 0, 0, 0, 0, 0, 0, 0, 0, 0, 0, 0] _ (fun w hw => hw.2.1) Tryd.underlying26 rfl (by kernel_rfl) (by rw [List.drop_zero, take_all Le.out]) (by rw [Le.out]; omega)) ?_
    simp only [List.getElem_toArray, List.getElem_cons_zero, List.getElem_cons_succ, Act.put, List.setIfInBounds_toArray, List.set_cons_zero, List.set_cons_succ]
    refine wpAnyU_take (i := 1) (v := _) HS.out (by rfl) (by kernel_rfl) (by kernel_rfl) (by kernel_rfl) (fun _ _ d _ _ h => by cases d <;> exact h) hdr (Steady.load_seg (by rfl) 26 (.tmp 6) (by rfl) (w11.heap.size) 0 12 (by rfl) 26 .u64 C C _ (fun w hw => hw.2.2.1) Tryd.underlying26 rfl (by kernel_rfl) (by rw [List.drop_zero, take_all LC.out]) (by rw [LC.out]; omega)) ?_
    simp only [List.getElem_toArray, List.getElem_cons_zero, List.getElem_cons_succ, Act.put, List.setIfInBounds_toArray, List.set_cons_zero, List.set_cons_succ]
    refine wpAnyU_take (i := 2) (v := .agg (vals .u64 Y)) HS.out (by rfl) (by kernel_rfl) (by kernel_rfl) (by kernel_rfl) (fun _ _ d _ _ h => by cases d <;> exact h) hdr (Or.inl ⟨by rfl, fun w hw => (by unfold Oper.quietAt; go_simp; exact PY.out _)⟩) ?_
    simp only [List.getElem_toArray, List.getElem_cons_zero, List.getElem_cons_succ, Act.put, List.setIfInBounds_toArray, List.set_cons_zero, List.set_cons_succ]
    refine wpAnyU_take (i := 5) (v := _) HS.out (by rfl) (by kernel_rfl) (by kernel_rfl) (by kernel_rfl) (fun _ _ d _ _ h => by cases d <;> exact h) hdr (Steady.load_seg (by rfl) 26 (.tmp 5) (by rfl) (w9.heap.size) 0 12 (by rfl) 26 .u64 X X _ (fun w hw => hw.2.2.2) Tryd.underlying26 rfl (by kernel_rfl) (by rw [List.drop_zero, take_all LX.out]) (by rw [LX.out]; omega)) ?_
    simp only [List.getElem_toArray, List.getElem_cons_zero, List.getElem_cons_succ, Act.put, List.setIfInBounds_toArray, List.set_cons_zero, List.set_cons_succ]
    refine wpAnyU_run (i := 3) (by rfl) (by kernel_rfl) (fun w14 hq => ?_)
    have ok14 := HS.out _ _ hdr hq
    have ra' := ra.keep hq
    have ro' := ro.keep hq
    have re1' := re1.keep hq
    have rk1' := rk1.keep hq
    have rb1' := rb1.keep hq
    have rx1' := rx1.keep hq
    have rc1' := rc1.keep hq
    have hbr' := hbr.trans (hq.mono (HSS.out _ hbr))
    clear hbr hq ra ro re1 rk1 rb1 rx1 rc1
    refine wpList_own (by rfl) ?_
    go_wp2_with (go_at_call 62
                 refine (refHalf_c _).mono ?_
                 rintro e w15 ⟨rfl, rk2, hq⟩
                 have Nak2 : Keep (S < w14.heap.size) := ⟨ra'.lt⟩
                 have Nok2 : Keep (S + 1 < w14.heap.size) := ⟨ro'.lt⟩
                 have Ne1k2 : Keep (S + 2 < w14.heap.size) := ⟨re1'.lt⟩
                 have Nk1k2 : Keep (w2.heap.size < w14.heap.size) := ⟨rk1'.lt⟩
                 have Nb1k2 : Keep (gb1 < w14.heap.size) := ⟨rb1'.lt⟩
                 have Nx1k2 : Keep (w9.heap.size < w14.heap.size) := ⟨rx1'.lt⟩
                 have Nc1k2 : Keep (w11.heap.size < w14.heap.size) := ⟨rc1'.lt⟩
                 have Mk2 : Keep (S ≤ w14.heap.size) := ⟨HSS.out _ hbr'⟩
                 have ok15 := HS.out _ _ ok14 hq
                 have ra := ra'.keep hq
                 have ro := ro'.keep hq
                 have re1 := re1'.keep hq
                 have rk1 := rk1'.keep hq
                 have rb1 := rb1'.keep hq
                 have rx1 := rx1'.keep hq
                 have rc1 := rc1'.keep hq
                 have hbr := hbr'.trans (hq.mono (HSS.out _ hbr'))
                 clear hq hbr' ok14 ra' ro' re1' rk1' rb1' rx1' rc1')
    try refine ⟨ok15, ?_⟩
    have HS15 : Keep (∀ x x' : World, (fun x : World => Below S w x ∧ Has x (S + 2) 26 (vals .u64 [1, 0, 0, 0, 0, 0, 0, 0, 0, 0, 0, 0]) ∧ Has x (w11.heap.size) 26 (vals .u64 C) ∧ Has x (w9.heap.size) 26 (vals .u64 X) ∧ Has x (w14.heap.size) 22 (vals .u64 halfL)) x → Below x.heap.size x x' → (fun x : World => Below S w x ∧ Has x (S + 2) 26 (vals .u64 [1, 0, 0, 0, 0, 0, 0, 0, 0, 0, 0, 0]) ∧ Has x (w11.heap.size) 26 (vals .u64 C) ∧ Has x (w9.heap.size) 26 (vals .u64 X) ∧ Has x (w14.heap.size) 22 (vals .u64 halfL)) x') := ⟨fun x x' h hb => by
      obtain ⟨hB, he1_, hc1_, hx1_, hk2_⟩ := h
      exact ⟨hB.trans (hb.mono (HSS.out _ hB)), he1_.keep hb, hc1_.keep hb, hx1_.keep hb, hk2_.keep hb⟩⟩
    refine wpAnyU_weaken (S' := (fun x : World => Below S w x ∧ Has x (S + 2) 26 (vals .u64 [1, 0, 0, 0, 0, 0, 0, 0, 0, 0, 0, 0]) ∧ Has x (w11.heap.size) 26 (vals .u64 C) ∧ Has x (w9.heap.size) 26 (vals .u64 X) ∧ Has x (w14.heap.size) 22 (vals .u64 halfL))) (fun w h => ⟨h.1, h.2.1, h.2.2.1, h.2.2.2.1⟩) ?_
    have oq15 : (fun x : World => Below S w x ∧ Has x (S + 2) 26 (vals .u64 [1, 0, 0, 0, 0, 0, 0, 0, 0, 0, 0, 0]) ∧ Has x (w11.heap.size) 26 (vals .u64 C) ∧ Has x (w9.heap.size) 26 (vals .u64 X) ∧ Has x (w14.heap.size) 22 (vals .u64 halfL)) w15 := ⟨hbr, re1, rc1, rx1, rk2⟩
    clear ok15 HS
    refine wpAnyU_take (i := 4) (v := .agg (vals .u64 Z)) HS15.out (by rfl) (by kernel_rfl) (by kernel_rfl) (by kernel_rfl) (fun _ _ d _ _ h => by cases d <;> exact h) oq15 (Or.inl ⟨by rfl, fun w hw => (by unfold Oper.quietAt; go_simp; exact PZ.out _ _ (Rd.of_has (hw.2.2.2.2) (hw.2.2.2.2).lt (by rfl) (by decide)))⟩) ?_
    simp only [List.getElem_toArray, List.getElem_cons_zero, List.getElem_cons_succ, Act.put, List.setIfInBounds_toArray, List.set_cons_zero, List.set_cons_succ]
    refine wpAnyU_take (i := 6) (v := .agg (vals .u64 R0)) HS15.out (by rfl) (by kernel_rfl) (by kernel_rfl) (by kernel_rfl) (fun _ _ d _ _ h => by cases d <;> exact h) oq15 (Or.inl ⟨by rfl, fun w hw => (by unfold Oper.quietAt; go_simp; exact PR.out _)⟩) ?_
    simp only [List.getElem_toArray, List.getElem_cons_zero, List.getElem_cons_succ, Act.put, List.setIfInBounds_toArray, List.set_cons_zero, List.set_cons_succ]
    refine wpAnyU_run (i := 7) (by rfl) (by kernel_rfl) (fun w16 hq => ?_)
    have ok16 := HS15.out _ _ oq15 hq
    have ra' := ra.keep hq
    have ro' := ro.keep hq
    have re1' := re1.keep hq
    have rk1' := rk1.keep hq
    have rb1' := rb1.keep hq
    have rx1' := rx1.keep hq
    have rc1' := rc1.keep hq
    have rk2' := rk2.keep hq
    have hbr' := hbr.trans (hq.mono (HSS.out _ hbr))
    clear hbr hq ra ro re1 rk1 rb1 rx1 rc1 rk2
    refine wpList_own (by rfl) ?_
    go_wp2_with (refine store_abs2 (by rfl) 26 (.tmp 2) (.tmp 32) (by rfl) (by rfl) (S + 1) (vals .u64 R0) (by rfl) (by rfl) 26 _ ro' (by rw [vals_size, LR0.out]; kernel_rfl) (by first | rfl | (rw [vals_size, vals_size, LR0.out]; rfl)) vals_one ?_
                 intro w17 ro hkeep hbg
                 have ra := hkeep _ _ _ ra' (by omega)
                 have re1 := hkeep _ _ _ re1' (Nat.ne_of_gt Noe1.out)
                 have rk1 := hkeep _ _ _ rk1' (Nat.ne_of_gt Nok1.out)
                 have rb1 := hkeep _ _ _ rb1' (Nat.ne_of_gt Nob1.out)
                 have rx1 := hkeep _ _ _ rx1' (Nat.ne_of_gt Nox1.out)
                 have rc1 := hkeep _ _ _ rc1' (Nat.ne_of_gt Noc1.out)
                 have rk2 := hkeep _ _ _ rk2' (Nat.ne_of_gt Nok2.out)
                 have hbr := hbr'.trans (hbg.mono (by omega))
                 clear hkeep hbg hbr' ra' ro' re1' rk1' rb1' rx1' rc1' rk2')
    try refine ⟨⟨hbr, re1, rc1, rx1, rk2⟩, ?_⟩
    have ok17 : (fun x : World => Below S w x ∧ Has x (S + 2) 26 (vals .u64 [1, 0, 0, 0, 0, 0, 0, 0, 0, 0, 0, 0]) ∧ Has x (w11.heap.size) 26 (vals .u64 C) ∧ Has x (w9.heap.size) 26 (vals .u64 X) ∧ Has x (w14.heap.size) 22 (vals .u64 halfL)) w17 := ⟨hbr, re1, rc1, rx1, rk2⟩
    clear ok16
    refine wpAnyU_end (by kernel_rfl) (fun w18 hq => ?_)
    have qa18 := ra.keep hq
    have qo18 := ro.keep hq
    have qe118 := re1.keep hq
    have qk118 := rk1.keep hq
    have qb118 := rb1.keep hq
    have qx118 := rx1.keep hq
    have qc118 := rc1.keep hq
    have qk218 := rk2.keep hq
    have hb18 := hbr.trans (hq.mono (HSS.out _ hbr))
    clear hq hbr ok17 HS15  ra ro re1 rk1 rb1 rx1 rc1 rk2
    go_wp2
    refine bodyPost_ret (v := .agg (vals .u64 R0)) (results_cell_row rfl _ _ (S + 1) _ _ _ _ rfl qo18.eq Tryd.underlying26 rfl (by rw [vals_size, LR0.out]; kernel_rfl)) rfl ⟨rfl, hb18⟩
  · intro w2 hq
    have ok2 := HS.out _ _ hdr hq
    have ra' := ra.keep hq
    have ro' := ro.keep hq
    have re1' := re1.keep hq
    have hbr' := hbr.trans (hq.mono (HSS.out _ hbr))
    clear hbr hq ra ro re1
    have Nab1 : Keep (S < w2.heap.size) := ⟨ra'.lt⟩
    have Nob1 : Keep (S + 1 < w2.heap.size) := ⟨ro'.lt⟩
    have Ne1b1 : Keep (S + 2 < w2.heap.size) := ⟨re1'.lt⟩
    have Mb1 : Keep (S ≤ w2.heap.size) := ⟨HSS.out _ hbr'⟩
    have hal : Below w2.heap.size w2 (w2.alloc (.cells (vals .u64 Fp2.Z12) 26)) := (Below.refl _ _).alloc (Nat.le_refl _) _
    have ok3 := HS.out _ _ ok2 hal
    have ra := ra'.keep hal
    have ro := ro'.keep hal
    have re1 := re1'.keep hal
    have rb1 : Has (w2.alloc (.cells (vals .u64 Fp2.Z12) 26)) w2.heap.size 26 (vals .u64 Fp2.Z12) := Has.new _ _ _
    have hbr := hbr'.trans (hal.mono (HSS.out _ hbr'))
    clear hal hbr' ok2 ra' ro' re1'
    refine wpList_own (by rfl) ?_
    go_wp2
    try refine ⟨ok3, ?_⟩
    obtain ⟨gb1, hgb1⟩ : ∃ g, w2.heap.size = g := ⟨_, rfl⟩
    obtain ⟨w3, hw3⟩ : ∃ x, w2.alloc (.cells (vals .u64 Fp2.Z12) 26) = x := ⟨_, rfl⟩
    change wpAnyU _ _ _ _ _ _ _ _ (w2.alloc (.cells (vals .u64 Fp2.Z12) 26))
    rw [hw3] at ok3 hbr ra ro re1 rb1 ⊢
    rw [hgb1] at rb1 Mb1 Nab1 Nob1 Ne1b1 ⊢
    clear hgb1 hw3
    refine wpAnyU_run (i := 1) (by rfl) (by kernel_rfl) (fun w4 hq => ?_)
    have ok4 := HS.out _ _ ok3 hq
    have ra' := ra.keep hq
    have ro' := ro.keep hq
    have re1' := re1.keep hq
    have rb1' := rb1.keep hq
    have hbr' := hbr.trans (hq.mono (HSS.out _ hbr))
    clear hbr hq ra ro re1 rb1
    refine wpList_own (by rfl) ?_
    go_wp2_with (go_at_call 60
                 refine (refLow_c _).mono ?_
                 rintro e w5 ⟨rfl, rk1, hq⟩
                 have Nak1 : Keep (S < w4.heap.size) := ⟨ra'.lt⟩
                 have Nok1 : Keep (S + 1 < w4.heap.size) := ⟨ro'.lt⟩
                 have Ne1k1 : Keep (S + 2 < w4.heap.size) := ⟨re1'.lt⟩
                 have Nb1k1 : Keep (gb1 < w4.heap.size) := ⟨rb1'.lt⟩
                 have Mk1 : Keep (S ≤ w4.heap.size) := ⟨HSS.out _ hbr'⟩
                 have ok5 := HS.out _ _ ok4 hq
                 have ra := ra'.keep hq
                 have ro := ro'.keep hq
                 have re1 := re1'.keep hq
                 have rb1 := rb1'.keep hq
                 have hbr := hbr'.trans (hq.mono (HSS.out _ hbr'))
                 clear hq hbr' ok4 ra' ro' re1' rb1')
    try refine ⟨ok5, ?_⟩
    have HS5 : Keep (∀ x x' : World, (fun x : World => Below S w x ∧ Has x (S) 26 (vals .u64 a) ∧ Has x (w4.heap.size) 22 (vals .u64 lowL)) x → Below x.heap.size x x' → (fun x : World => Below S w x ∧ Has x (S) 26 (vals .u64 a) ∧ Has x (w4.heap.size) 22 (vals .u64 lowL)) x') := ⟨fun x x' h hb => by
      obtain ⟨hB, ha_, hk1_⟩ := h
      exact ⟨hB.trans (hb.mono (HSS.out _ hB)), ha_.keep hb, hk1_.keep hb⟩⟩
    refine wpAnyU_weaken (S' := (fun x : World => Below S w x ∧ Has x (S) 26 (vals .u64 a) ∧ Has x (w4.heap.size) 22 (vals .u64 lowL))) (fun w h => ⟨h.1, h.2.1⟩) ?_
    have oq5 : (fun x : World => Below S w x ∧ Has x (S) 26 (vals .u64 a) ∧ Has x (w4.heap.size) 22 (vals .u64 lowL)) w5 := ⟨hbr, ra, rk1⟩
    clear ok5 HS
    refine wpAnyU_take (i := 2) (v := .agg (vals .u64 B)) HS5.out (by rfl) (by kernel_rfl) (by kernel_rfl) (by kernel_rfl) (fun _ _ d _ _ h => by cases d <;> exact h) oq5 (Or.inl ⟨by rfl, fun w hw => (by unfold Oper.quietAt; go_simp; exact PL.out _ _ (Rd.of_has (hw.2.2) (hw.2.2).lt (by rfl) (by decide)))⟩) ?_
    simp only [List.getElem_toArray, List.getElem_cons_zero, List.getElem_cons_succ, Act.put, List.setIfInBounds_toArray, List.set_cons_zero, List.set_cons_succ]
    refine wpAnyU_run (i := 4) (by rfl) (by kernel_rfl) (fun w6 hq => ?_)
    have ok6 := HS5.out _ _ oq5 hq
    have ra' := ra.keep hq
    have ro' := ro.keep hq
    have re1' := re1.keep hq
    have rb1' := rb1.keep hq
    have rk1' := rk1.keep hq
    have hbr' := hbr.trans (hq.mono (HSS.out _ hbr))
    clear hbr hq ra ro re1 rb1 rk1
    refine wpList_own (by rfl) ?_
    go_wp2_with (refine store_abs2 (by rfl) 26 (.tmp 4) (.tmp 11) (by rfl) (by rfl) (gb1) (vals .u64 B) (by rfl) (by rfl) 26 _ rb1' (by rw [vals_size, LB.out]; kernel_rfl) (by first | rfl | (rw [vals_size, vals_size, LB.out]; rfl)) vals_one ?_
                 intro w7 rb1 hkeep hbg
                 have ra := hkeep _ _ _ ra' (Nat.ne_of_lt Nab1.out)
                 have ro := hkeep _ _ _ ro' (Nat.ne_of_lt Nob1.out)
                 have re1 := hkeep _ _ _ re1' (Nat.ne_of_lt Ne1b1.out)
                 have rk1 := hkeep _ _ _ rk1' (Nat.ne_of_gt Nb1k1.out)
                 have hbr := hbr'.trans (hbg.mono Mb1.out)
                 clear hkeep hbg hbr' ra' ro' re1' rb1' rk1')
    try refine ⟨⟨hbr, ra, rk1⟩, ?_⟩
    have ok7 : (fun x : World => Below S w x ∧ Has x (S) 26 (vals .u64 a) ∧ Has x (w4.heap.size) 22 (vals .u64 lowL)) w7 := ⟨hbr, ra, rk1⟩
    clear ok6
    refine wpAnyU_end (by kernel_rfl) (fun w8 hq => ?_)
    have qa8 := ra.keep hq
    have qo8 := ro.keep hq
    have qe18 := re1.keep hq
    have qb18 := rb1.keep hq
    have qk18 := rk1.keep hq
    have hb8 := hbr.trans (hq.mono (HSS.out _ hbr))
    clear hq hbr ok7 HS5  ra ro re1 rb1 rk1
    go_wp2_with (first
      | (refine store_abs2 (by rfl) 26 (.tmp 6) (.tmp 17) (by rfl) (by rfl) (w11.heap.size) (vals .u64 C) (by rfl) (by rfl) 26 (vals .u64 Fp2.Z12) (Has.new' _ rfl _ _) (by rw [vals_size, LC.out]; kernel_rfl) (by first | rfl | (rw [vals_size, vals_size, LC.out]; rfl)) vals_one ?_
         intro w12 qc112 hkeep hbg
         have hbe := ((Below.refl (w11).heap.size (w11)).alloc (Nat.le_refl _) (.cells (vals .u64 Fp2.Z12) 26)).trans hbg
         have Nac1 : Keep (S < w11.heap.size) := ⟨qa11.lt⟩
         have Noc1 : Keep (S + 1 < w11.heap.size) := ⟨qo11.lt⟩
         have Ne1c1 : Keep (S + 2 < w11.heap.size) := ⟨qe111.lt⟩
         have Nb1c1 : Keep (gb1 < w11.heap.size) := ⟨qb111.lt⟩
         have Nk1c1 : Keep (w4.heap.size < w11.heap.size) := ⟨qk111.lt⟩
         have Nx1c1 : Keep (w9.heap.size < w11.heap.size) := ⟨qx111.lt⟩
         have Mc1 : Keep (S ≤ w11.heap.size) := ⟨HSS.out _ hb11⟩
         have qa12 := qa11.keep hbe
         have qo12 := qo11.keep hbe
         have qe112 := qe111.keep hbe
         have qb112 := qb111.keep hbe
         have qk112 := qk111.keep hbe
         have qx112 := qx111.keep hbe
         have hb12 := hb11.trans (hbe.mono (HSS.out _ hb11))
         clear hkeep hbg hbe hb11 qa11 qo11 qe111 qb111 qk111 qx111)
      | (have hq0 := hb10
         clear hq0
         go_at_call 32
         refine (PC.out _).mono ?_
         rintro e w11 ⟨rfl, hq⟩
         have qa11 := qa10.keep hq
         have qo11 := qo10.keep hq
         have qe111 := qe110.keep hq
         have qb111 := qb110.keep hq
         have qk111 := qk110.keep hq
         have qx111 := qx110.keep hq
         have hb11 := hb10.trans (hq.mono (HSS.out _ hb10))
         clear hq hb10 qa10 qo10 qe110 qb110 qk110 qx110)
      | (refine wpList_load_row rfl 26 (.tmp 5) rfl (w9.heap.size) rfl _ _ _ _ qx110.eq Tryd.underlying26 rfl (by rw [vals_size, LX.out]; kernel_rfl) ?_)
      | (refine wpList_load_row rfl 26 (.tmp 4) rfl (gb1) rfl _ _ _ _ qb110.eq Tryd.underlying26 rfl (by rw [vals_size, LB.out]; kernel_rfl) ?_)
      | (refine store_abs2 (by rfl) 26 (.tmp 5) (.tmp 14) (by rfl) (by rfl) (w9.heap.size) (vals .u64 X) (by rfl) (by rfl) 26 (vals .u64 Fp2.Z12) (Has.new' _ rfl _ _) (by rw [vals_size, LX.out]; kernel_rfl) (by first | rfl | (rw [vals_size, vals_size, LX.out]; rfl)) vals_one ?_
         intro w10 qx110 hkeep hbg
         have hbe := ((Below.refl (w9).heap.size (w9)).alloc (Nat.le_refl _) (.cells (vals .u64 Fp2.Z12) 26)).trans hbg
         have Nax1 : Keep (S < w9.heap.size) := ⟨qa9.lt⟩
         have Nox1 : Keep (S + 1 < w9.heap.size) := ⟨qo9.lt⟩
         have Ne1x1 : Keep (S + 2 < w9.heap.size) := ⟨qe19.lt⟩
         have Nb1x1 : Keep (gb1 < w9.heap.size) := ⟨qb19.lt⟩
         have Nk1x1 : Keep (w4.heap.size < w9.heap.size) := ⟨qk19.lt⟩
         have Mx1 : Keep (S ≤ w9.heap.size) := ⟨HSS.out _ hb9⟩
         have qa10 := qa9.keep hbe
         have qo10 := qo9.keep hbe
         have qe110 := qe19.keep hbe
         have qb110 := qb19.keep hbe
         have qk110 := qk19.keep hbe
         have hb10 := hb9.trans (hbe.mono (HSS.out _ hb9))
         clear hkeep hbg hbe hb9 qa9 qo9 qe19 qb19 qk19)
      | (have hq0 := hb8
         clear hq0
         go_at_call 32
         refine (PX.out _).mono ?_
         rintro e w9 ⟨rfl, hq⟩
         have qa9 := qa8.keep hq
         have qo9 := qo8.keep hq
         have qe19 := qe18.keep hq
         have qb19 := qb18.keep hq
         have qk19 := qk18.keep hq
         have hb9 := hb8.trans (hq.mono (HSS.out _ hb8))
         clear hq hb8 qa8 qo8 qe18 qb18 qk18)
      | (refine wpList_load_row rfl 26 (.tmp 1) rfl (S) rfl _ _ _ _ qa8.eq Tryd.underlying26 rfl (by rw [vals_size, La.out]; kernel_rfl) ?_)
      | (refine wpList_load_row rfl 26 (.tmp 4) rfl (gb1) rfl _ _ _ _ qb18.eq Tryd.underlying26 rfl (by rw [vals_size, LB.out]; kernel_rfl) ?_))
    refine wp_fam_all (by kernel_rfl) (by kernel_rfl) (fun I hI' fw hf hback => ?_)
    repeat (first
      | (go_big_quiet_want
         refine quiet_load_seg 26 (.tmp 6) (by rfl) (w11.heap.size) 0 12 (by rfl) 26 .u64 C C _ (fun w' ⟨i, hi⟩ => by rw [hi]; exact qc112.keep (hf i)) Tryd.underlying26 rfl (by kernel_rfl) (by rw [List.drop_zero, take_all LC.out]) (by rw [LC.out]; omega) ?_
         simp only [Act.put, List.setIfInBounds_toArray, List.set_cons_zero, List.set_cons_succ]
         go_big_quiet_on)
      | (go_big_quiet_want
         refine quiet_load_seg 26 (.tmp 3) (by rfl) (S + 2) 0 12 (by rfl) 26 .u64 [1, 0, 0, 0, 0, 0, 0, 0, 0, 0, 0, 0] [1, 0, 0, 0, 0, 0, 0, 0, 0, 0, 0, 0] _ (fun w' ⟨i, hi⟩ => by rw [hi]; exact qe112.keep (hf i)) Tryd.underlying26 rfl (by kernel_rfl) (by rw [List.drop_zero, take_all Le.out]) (by rw [Le.out]; omega) ?_
         simp only [Act.put, List.setIfInBounds_toArray, List.set_cons_zero, List.set_cons_succ]
         go_big_quiet_on)
      | go_big_quiet_step (first | fail | (go_at_call 34; with_reducible exact calls_fam hf hback (PN.out _))))
    refine wpQuiet_nil ?_
    intro w13 hq
    have qa13 := qa12.keep hq
    have qo13 := qo12.keep hq
    have qe113 := qe112.keep hq
    have qb113 := qb112.keep hq
    have qk113 := qk112.keep hq
    have qx113 := qx112.keep hq
    have qc113 := qc112.keep hq
    have hb13 := hb12.trans (hq.mono (HSS.out _ hb12))
    clear hf hback hq hb12 qa12 qo12 qe112 qb112 qk112 qx112 qc112 
    go_wp2
    have HS : Keep (∀ x x' : World, (fun x : World => Below S w x ∧ Has x (S + 2) 26 (vals .u64 [1, 0, 0, 0, 0, 0, 0, 0, 0, 0, 0, 0]) ∧ Has x (w11.heap.size) 26 (vals .u64 C) ∧ Has x (w9.heap.size) 26 (vals .u64 X)) x → Below x.heap.size x x' → (fun x : World => Below S w x ∧ Has x (S + 2) 26 (vals .u64 [1, 0, 0, 0, 0, 0, 0, 0, 0, 0, 0, 0]) ∧ Has x (w11.heap.size) 26 (vals .u64 C) ∧ Has x (w9.heap.size) 26 (vals .u64 X)) x') := ⟨fun x x' h hb => by
      obtain ⟨hB, he1_, hc1_, hx1_⟩ := h
      exact ⟨hB.trans (hb.mono (HSS.out _ hB)), he1_.keep hb, hc1_.keep hb, hx1_.keep hb⟩⟩
    have hdr : (fun x : World => Below S w x ∧ Has x (S + 2) 26 (vals .u64 [1, 0, 0, 0, 0, 0, 0, 0, 0, 0, 0, 0]) ∧ Has x (w11.heap.size) 26 (vals .u64 C) ∧ Has x (w9.heap.size) 26 (vals .u64 X)) w13.drew := HS.out _ _ ⟨hb13, qe113, qc113, qx113⟩ ⟨rfl, rfl, rfl, Nat.le_refl _, fun _ _ => rfl⟩
    have hbd : Below w13.heap.size w13 w13.drew := ⟨rfl, rfl, rfl, Nat.le_refl _, fun _ _ => rfl⟩
    refine wp_regionU (S := (fun x : World => Below S w x ∧ Has x (S + 2) 26 (vals .u64 [1, 0, 0, 0, 0, 0, 0, 0, 0, 0, 0, 0]) ∧ Has x (w11.heap.size) 26 (vals .u64 C) ∧ Has x (w9.heap.size) 26 (vals .u64 X))) (by kernel_rfl) ?_
    change wpAnyU _ _ _ _ _ 8 _ _ _
    have ra := qa13.keep hbd
    have ro := qo13.keep hbd
    have re1 := qe113.keep hbd
    have rb1 := qb113.keep hbd
    have rk1 := qk113.keep hbd
    have rx1 := qx113.keep hbd
    have rc1 := qc113.keep hbd
    have hbr := hb13.trans (hbd.mono (HSS.out _ hb13))
    clear hbd hb13 qa13 qo13 qe113 qb113 qk113 qx113 qc113
    refine wpAnyU_take (i := 0) (v := _) HS.out (by rfl) (by kernel_rfl) (by kernel_rfl) (by kernel_rfl) (fun _ _ d _ _ h => by cases d <;> exact h) hdr (Steady.load_seg (by rfl) 26 (.tmp 3) (by rfl) (S + 2) 0 12 (by rfl) 26 .u64 [1, 0, 0, 0, 0, 0, 0, 0, 0, 0, 0, 0] [1, 0, 0, 0, 0, 0, 0, 0, 0, 0, 0, 0] _ (fun w hw => hw.2.1) Tryd.underlying26 rfl (by kernel_rfl) (by rw [List.drop_zero, take_all Le.out]) (by rw [Le.out]; omega)) ?_
    simp only [List.getElem_toArray, List.getElem_cons_zero, List.getElem_cons_succ, Act.put, List.setIfInBounds_toArray, List.set_cons_zero, List.set_cons_succ]
    refine wpAnyU_take (i := 1) (v := _) HS.out (by rfl) (by kernel_rfl) (by kernel_rfl) (by kernel_rfl) (fun _ _ d _ _ h => by cases d <;> exact h) hdr (Steady.load_seg (by rfl) 26 (.tmp 6) (by rfl) (w11.heap.size) 0 12 (by rfl) 26 .u64 C C _ (fun w hw => hw.2.2.1) Tryd.underlying26 rfl (by kernel_rfl) (by rw [List.drop_zero, take_all LC.out]) (by rw [LC.out]; omega)) ?_
    simp only [List.getElem_toArray, List.getElem_cons_zero, List.getElem_cons_succ, Act.put, List.setIfInBounds_toArray, List.set_cons_zero, List.set_cons_succ]
    refine wpAnyU_take (i := 2) (v := .agg (vals .u64 Y)) HS.out (by rfl) (by kernel_rfl) (by kernel_rfl) (by kernel_rfl) (fun _ _ d _ _ h => by cases d <;> exact h) hdr (Or.inl ⟨by rfl, fun w hw => (by unfold Oper.quietAt; go_simp; exact PY.out _)⟩) ?_
    simp only [List.getElem_toArray, List.getElem_cons_zero, List.getElem_cons_succ, Act.put, List.setIfInBounds_toArray, List.set_cons_zero, List.set_cons_succ]
    refine wpAnyU_take (i := 5) (v := _) HS.out (by rfl) (by kernel_rfl) (by kernel_rfl) (by kernel_rfl) (fun _ _ d _ _ h => by cases d <;> exact h) hdr (Steady.load_seg (by rfl) 26 (.tmp 5) (by rfl) (w9.heap.size) 0 12 (by rfl) 26 .u64 X X _ (fun w hw => hw.2.2.2) Tryd.underlying26 rfl (by kernel_rfl) (by rw [List.drop_zero, take_all LX.out]) (by rw [LX.out]; omega)) ?_
    simp only [List.getElem_toArray, List.getElem_cons_zero, List.getElem_cons_succ, Act.put, List.setIfInBounds_toArray, List.set_cons_zero, List.set_cons_succ]
    refine wpAnyU_run (i := 3) (by rfl) (by kernel_rfl) (fun w14 hq => ?_)
    have ok14 := HS.out _ _ hdr hq
    have ra' := ra.keep hq
    have ro' := ro.keep hq
    have re1' := re1.keep hq
    have rb1' := rb1.keep hq
    have rk1' := rk1.keep hq
    have rx1' := rx1.keep hq
    have rc1' := rc1.keep hq
    have hbr' := hbr.trans (hq.mono (HSS.out _ hbr))
    clear hbr hq ra ro re1 rb1 rk1 rx1 rc1
    refine wpList_own (by rfl) ?_
    go_wp2_with (go_at_call 62
                 refine (refHalf_c _).mono ?_
                 rintro e w15 ⟨rfl, rk2, hq⟩
                 have Nak2 : Keep (S < w14.heap.size) := ⟨ra'.lt⟩
                 have Nok2 : Keep (S + 1 < w14.heap.size) := ⟨ro'.lt⟩
                 have Ne1k2 : Keep (S + 2 < w14.heap.size) := ⟨re1'.lt⟩
                 have Nb1k2 : Keep (gb1 < w14.heap.size) := ⟨rb1'.lt⟩
                 have Nk1k2 : Keep (w4.heap.size < w14.heap.size) := ⟨rk1'.lt⟩
                 have Nx1k2 : Keep (w9.heap.size < w14.heap.size) := ⟨rx1'.lt⟩
                 have Nc1k2 : Keep (w11.heap.size < w14.heap.size) := ⟨rc1'.lt⟩
                 have Mk2 : Keep (S ≤ w14.heap.size) := ⟨HSS.out _ hbr'⟩
                 have ok15 := HS.out _ _ ok14 hq
                 have ra := ra'.keep hq
                 have ro := ro'.keep hq
                 have re1 := re1'.keep hq
                 have rb1 := rb1'.keep hq
                 have rk1 := rk1'.keep hq
                 have rx1 := rx1'.keep hq
                 have rc1 := rc1'.keep hq
                 have hbr := hbr'.trans (hq.mono (HSS.out _ hbr'))
                 clear hq hbr' ok14 ra' ro' re1' rb1' rk1' rx1' rc1')
    try refine ⟨ok15, ?_⟩
    have HS15 : Keep (∀ x x' : World, (fun x : World => Below S w x ∧ Has x (S + 2) 26 (vals .u64 [1, 0, 0, 0, 0, 0, 0, 0, 0, 0, 0, 0]) ∧ Has x (w11.heap.size) 26 (vals .u64 C) ∧ Has x (w9.heap.size) 26 (vals .u64 X) ∧ Has x (w14.heap.size) 22 (vals .u64 halfL)) x → Below x.heap.size x x' → (fun x : World => Below S w x ∧ Has x (S + 2) 26 (vals .u64 [1, 0, 0, 0, 0, 0, 0, 0, 0, 0, 0, 0]) ∧ Has x (w11.heap.size) 26 (vals .u64 C) ∧ Has x (w9.heap.size) 26 (vals .u64 X) ∧ Has x (w14.heap.size) 22 (vals .u64 halfL)) x') := ⟨fun x x' h hb => by
      obtain ⟨hB, he1_, hc1_, hx1_, hk2_⟩ := h
      exact ⟨hB.trans (hb.mono (HSS.out _ hB)), he1_.keep hb, hc1_.keep hb, hx1_.keep hb, hk2_.keep hb⟩⟩
    refine wpAnyU_weaken (S' := (fun x : World => Below S w x ∧ Has x (S + 2) 26 (vals .u64 [1, 0, 0, 0, 0, 0, 0, 0, 0, 0, 0, 0]) ∧ Has x (w11.heap.size) 26 (vals .u64 C) ∧ Has x (w9.heap.size) 26 (vals .u64 X) ∧ Has x (w14.heap.size) 22 (vals .u64 halfL))) (fun w h => ⟨h.1, h.2.1, h.2.2.1, h.2.2.2.1⟩) ?_
    have oq15 : (fun x : World => Below S w x ∧ Has x (S + 2) 26 (vals .u64 [1, 0, 0, 0, 0, 0, 0, 0, 0, 0, 0, 0]) ∧ Has x (w11.heap.size) 26 (vals .u64 C) ∧ Has x (w9.heap.size) 26 (vals .u64 X) ∧ Has x (w14.heap.size) 22 (vals .u64 halfL)) w15 := ⟨hbr, re1, rc1, rx1, rk2⟩
    clear ok15 HS
    refine wpAnyU_take (i := 4) (v := .agg (vals .u64 Z)) HS15.out (by rfl) (by kernel_rfl) (by kernel_rfl) (by kernel_rfl) (fun _ _ d _ _ h => by cases d <;> exact h) oq15 (Or.inl ⟨by rfl, fun w hw => (by unfold Oper.quietAt; go_simp; exact PZ.out _ _ (Rd.of_has (hw.2.2.2.2) (hw.2.2.2.2).lt (by rfl) (by decide)))⟩) ?_
    simp only [List.getElem_toArray, List.getElem_cons_zero, List.getElem_cons_succ, Act.put, List.setIfInBounds_toArray, List.set_cons_zero, List.set_cons_succ]
    refine wpAnyU_take (i := 6) (v := .agg (vals .u64 R0)) HS15.out (by rfl) (by kernel_rfl) (by kernel_rfl) (by kernel_rfl) (fun _ _ d _ _ h => by cases d <;> exact h) oq15 (Or.inl ⟨by rfl, fun w hw => (by unfold Oper.quietAt; go_simp; exact PR.out _)⟩) ?_
    simp only [List.getElem_toArray, List.getElem_cons_zero, List.getElem_cons_succ, Act.put, List.setIfInBounds_toArray, List.set_cons_zero, List.set_cons_succ]
    refine wpAnyU_run (i := 7) (by rfl) (by kernel_rfl) (fun w16 hq => ?_)
    have ok16 := HS15.out _ _ oq15 hq
    have ra' := ra.keep hq
    have ro' := ro.keep hq
    have re1' := re1.keep hq
    have rb1' := rb1.keep hq
    have rk1' := rk1.keep hq
    have rx1' := rx1.keep hq
    have rc1' := rc1.keep hq
    have rk2' := rk2.keep hq
    have hbr' := hbr.trans (hq.mono (HSS.out _ hbr))
    clear hbr hq ra ro re1 rb1 rk1 rx1 rc1 rk2
    refine wpList_own (by rfl) ?_
    go_wp2_with (refine store_abs2 (by rfl) 26 (.tmp 2) (.tmp 32) (by rfl) (by rfl) (S + 1) (vals .u64 R0) (by rfl) (by rfl) 26 _ ro' (by rw [vals_size, LR0.out]; kernel_rfl) (by first | rfl | (rw [vals_size, vals_size, LR0.out]; rfl)) vals_one ?_
                 intro w17 ro hkeep hbg
                 have ra := hkeep _ _ _ ra' (by omega)
                 have re1 := hkeep _ _ _ re1' (Nat.ne_of_gt Noe1.out)
                 have rb1 := hkeep _ _ _ rb1' (Nat.ne_of_gt Nob1.out)
                 have rk1 := hkeep _ _ _ rk1' (Nat.ne_of_gt Nok1.out)
                 have rx1 := hkeep _ _ _ rx1' (Nat.ne_of_gt Nox1.out)
                 have rc1 := hkeep _ _ _ rc1' (Nat.ne_of_gt Noc1.out)
                 have rk2 := hkeep _ _ _ rk2' (Nat.ne_of_gt Nok2.out)
                 have hbr := hbr'.trans (hbg.mono (by omega))
                 clear hkeep hbg hbr' ra' ro' re1' rb1' rk1' rx1' rc1' rk2')
    try refine ⟨⟨hbr, re1, rc1, rx1, rk2⟩, ?_⟩
    have ok17 : (fun x : World => Below S w x ∧ Has x (S + 2) 26 (vals .u64 [1, 0, 0, 0, 0, 0, 0, 0, 0, 0, 0, 0]) ∧ Has x (w11.heap.size) 26 (vals .u64 C) ∧ Has x (w9.heap.size) 26 (vals .u64 X) ∧ Has x (w14.heap.size) 22 (vals .u64 halfL)) w17 := ⟨hbr, re1, rc1, rx1, rk2⟩
    clear ok16
    refine wpAnyU_end (by kernel_rfl) (fun w18 hq => ?_)
    have qa18 := ra.keep hq
    have qo18 := ro.keep hq
    have qe118 := re1.keep hq
    have qb118 := rb1.keep hq
    have qk118 := rk1.keep hq
    have qx118 := rx1.keep hq
    have qc118 := rc1.keep hq
    have qk218 := rk2.keep hq
    have hb18 := hbr.trans (hq.mono (HSS.out _ hbr))
    clear hq hbr ok17 HS15  ra ro re1 rb1 rk1 rx1 rc1 rk2
    go_wp2
    refine bodyPost_ret (v := .agg (vals .u64 R0)) (results_cell_row rfl _ _ (S + 1) _ _ _ _ rfl qo18.eq Tryd.underlying26 rfl (by rw [vals_size, LR0.out]; kernel_rfl)) rfl ⟨rfl, hb18⟩

set_option maxRecDepth 100000 in
set_option maxHeartbeats 4000000 in
theorem rRoot_c (a : List Int) (ha : Nm 12 a) (w : World) : Calls Tryd.prog 31 #[.agg (vals .u64 a)] w fun e w' => e = .returned (.agg (vals .u64 (F2 (rt LL (v2 a))))) ∧ Below w.heap.size w w' := by
  by_cases h : rt.E2 (gm (gp (v2 a) LL) (gm (gp (v2 a) LL) (v2 a))) (-1, 0) = true
  · exact rRoot_a a ha h w
  · exact rRoot_b a ha h w

end Go.Proofs.YtoogmgckbalboaaDoor.Fp2r
