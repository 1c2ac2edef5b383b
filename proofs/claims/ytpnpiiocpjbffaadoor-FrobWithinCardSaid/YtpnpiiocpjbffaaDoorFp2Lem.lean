/-
  Own text. Lemmas on conjugates and parts of numbers with u. Speaks of no landed body.
-/
import Derived.Test.YtpnpiiocpjbffaaDoorFp2Eq
import Derived.Test.YtpnpiiocpjbffaaDoorMFp2M
namespace Go.Proofs.YtpnpiiocpjbffaaDoor.Fp2
set_option linter.unusedVariables false
open Go Go.RowKit Go.Proofs.YtpnpiiocpjbffaaDoor.Reg Go.Proofs.YtpnpiiocpjbffaaDoor.Base Go.Proofs.YtpnpiiocpjbffaaDoor.Limb Go.Proofs.YtpnpiiocpjbffaaDoor.Fp
theorem eqokF : EqOK Tryd.prog 10000 24 6 := eqok_arr (d := 9998) Tryd.underlying24 Tryd.underlying22 (by kernel_rfl) (by kernel_rfl)
theorem gdF : Tryd.prog.eqGuardType Tryd.prog.depth 24 = false := by kernel_rfl
theorem build2z {x : List Int} (h : Nm 6 x) : Tryd.prog.built 26 [(0, .agg (vals .u64 x))] = some (vals .u64 (x ++ Z6)) := built_a built2 h.len
section
variable (p q : G)
theorem cj1 : F2 (gc (v2 (F2 (ga p q)))) = F2 (ga (v2 (F2 (gc p))) (v2 (F2 (gc q)))) :=
  F2_eq ((gc_congr (v2_F2 _)).trans (by rw [gc_ga]; exact ga_congr (v2_F2 _).symm (v2_F2 _).symm))
theorem cj2 : F2 (gc (v2 (F2 (gm p q)))) = F2 (gm (v2 (F2 (gc p))) (v2 (F2 (gc q)))) :=
  F2_eq ((gc_congr (v2_F2 _)).trans (by rw [gc_gm]; exact gm_congr (v2_F2 _).symm (v2_F2 _).symm))
theorem cj3 : F2 (gc (v2 (F2 (gc p)))) = F2 p :=
  F2_eq ((gc_congr (v2_F2 _)).trans (by rw [show gc (gc p) = p by apply Prod.ext <;> simp [gc]]; exact E2.rfl))
end
theorem nrm_eq (a : List Int) : fe (num (fe (num (seg 0 6 a) * num (seg 0 6 a))) + num (fe (num (seg 6 6 a) * num (seg 6 6 a)))) = fe (gnorm (v2 a)) := by rw [fe_addl, fe_addr]; rfl
theorem cj4 (a : List Int) : F2 (gm (v2 a) (v2 (F2 (gc (v2 a))))) = fe (num (fe (num (seg 0 6 a) * num (seg 0 6 a))) + num (fe (num (seg 6 6 a) * num (seg 6 6 a)))) ++ Z6 := by
  rw [nrm_eq, F2_eq (gm_congr E2.rfl (v2_F2 _)), gm_gc, F2, ← fe_zero]
theorem nrm_zero (a : List Int) : fe (num (fe (num (seg 0 6 a) * num (seg 0 6 a))) + num (fe (num (seg 6 6 a) * num (seg 6 6 a)))) = Z6 ↔ Z2 (v2 a) := by
  rw [nrm_eq, ← fe_zero, fe_zero_iff]
  refine ⟨norm_zero, fun h => ?_⟩
  rw [gnorm, Int.add_emod, Int.mul_emod, h.1, Int.mul_emod (v2 a).2, h.2]
  rfl
theorem v2_app {x y : List Int} (h : Nm 6 x) (h' : Nm 6 y) : v2 (x ++ y) = (num x, num y) := by
  rw [v2, show seg 0 6 (x ++ y) = x from List.take_left' h.len, seg, List.drop_left' h.len, List.take_of_length_le (by rw [h'.len]; omega)]
theorem pt1 (a : List Int) {k : List Int} (hk : Nm 6 k) : F2 (gk (v2 a) (num k)) = F2 (gm (v2 a) (v2 (k ++ Z6))) := by
  rw [v2_app hk nm_Z6, num_Z6]
  congr 1
  generalize v2 a = p
  apply Prod.ext <;> simp only [gk, gm] <;> grind
theorem pt2 (p : G) : F2 (gm p (1, 1)) = F2 (gm p (v2 [1, 0, 0, 0, 0, 0, 1, 0, 0, 0, 0, 0])) := by rw [show v2 [1, 0, 0, 0, 0, 0, 1, 0, 0, 0, 0, 0] = (1, 1) by decide +kernel]
theorem pt3 (a : List Int) : seg 0 6 (F2 (gm (v2 a) (1, 1))) = fe (num (seg 0 6 a) - num (seg 6 6 a)) := by
  rw [seg_F2a, gm, Int.mul_one, Int.mul_one]
  rfl
theorem pt4 (a : List Int) : seg 6 6 (F2 (gm (v2 a) (1, 1))) = fe (num (seg 0 6 a) + num (seg 6 6 a)) := by
  rw [seg_F2b, gm, Int.mul_one, Int.mul_one]
  rfl
theorem fr1 (p : G) {e : Nat} (he : PP.toNat = e) : F2 (gp p e) = F2 (gc p) := by rw [← he]; exact F2_eq (frob p)
end Go.Proofs.YtpnpiiocpjbffaaDoor.Fp2
