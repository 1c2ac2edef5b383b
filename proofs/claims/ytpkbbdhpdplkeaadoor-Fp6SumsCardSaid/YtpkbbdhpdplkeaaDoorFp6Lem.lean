/-
  Own text. What the statements of layer 9 compare.
-/
import Derived.Test.YtpkbbdhpdplkeaaDoorFp6Math
namespace Go.Proofs.YtpkbbdhpdplkeaaDoor.Fp6L
set_option linter.unusedVariables false
set_option linter.unusedSimpArgs false
open Go Go.RowKit Go.Proofs.YtpkbbdhpdplkeaaDoor.Reg Go.Proofs.YtpkbbdhpdplkeaaDoor.Base Go.Proofs.YtpkbbdhpdplkeaaDoor.Limb Go.Proofs.YtpkbbdhpdplkeaaDoor.Fp Go.Proofs.YtpkbbdhpdplkeaaDoor.Fp2 Go.Proofs.YtpkbbdhpdplkeaaDoor.Fp6

def O36l : List Int := [1, 0, 0, 0, 0, 0] ++ List.replicate 30 0
def N36d : List Int := List.replicate 36 0
theorem nm_N36d : Nm 36 N36d := ⟨rfl, words_zeros 36⟩
def V36d : List Int := List.replicate 12 0 ++ [1, 0, 0, 0, 0, 0] ++ List.replicate 18 0
def C36d : List Int := List.replicate 24 0 ++ [1, 0, 0, 0, 0, 0] ++ List.replicate 6 0
def X36d : List Int := [1, 0, 0, 0, 0, 0, 1, 0, 0, 0, 0, 0] ++ List.replicate 24 0
theorem nm_O36l : Nm 36 O36l := ⟨rfl, words_of _ (by decide)⟩
theorem nm_V36d : Nm 36 V36d := ⟨rfl, words_of _ (by decide)⟩
theorem nm_C36d : Nm 36 C36d := ⟨rfl, words_of _ (by decide)⟩
theorem nm_X36d : Nm 36 X36d := ⟨rfl, words_of _ (by decide)⟩
theorem aw_e1 : F6 (hm (v6 V36d) (v6 V36d)) = C36d := by decide +kernel
theorem aw_e2 : F6 (hm (v6 V36d) (v6 C36d)) = X36d := by decide +kernel
theorem aw_e3 : F6 (hv (v6 C36d)) = X36d := by decide +kernel
section
variable (p q r : H)
theorem fld1 : F6 (Fp6.ha p q) = F6 (Fp6.ha q p) := by rw [Fp6.ha_comm]
theorem fld2 : F6 (Fp6.hm p q) = F6 (Fp6.hm q p) := by rw [Fp6.hm_comm]
theorem fld3 : F6 (Fp6.ha (v6 (F6 (Fp6.ha p q))) r) = F6 (Fp6.ha p (v6 (F6 (Fp6.ha q r)))) :=
  F6_eq ((Fp6.ha_congr (v6_F6 _) E6.rfl).trans (by rw [Fp6.ha_assoc]; exact Fp6.ha_congr E6.rfl (v6_F6 _).symm))
theorem fld4 : F6 (Fp6.hm (v6 (F6 (Fp6.hm p q))) r) = F6 (Fp6.hm p (v6 (F6 (Fp6.hm q r)))) :=
  F6_eq ((Fp6.hm_congr (v6_F6 _) E6.rfl).trans (by rw [Fp6.hm_assoc]; exact Fp6.hm_congr E6.rfl (v6_F6 _).symm))
theorem fld5 : F6 (Fp6.hm p (v6 (F6 (Fp6.ha q r)))) = F6 (Fp6.ha (v6 (F6 (Fp6.hm p q))) (v6 (F6 (Fp6.hm p r)))) :=
  F6_eq ((Fp6.hm_congr E6.rfl (v6_F6 _)).trans (by rw [Fp6.hm_ha]; exact Fp6.ha_congr (v6_F6 _).symm (v6_F6 _).symm))
theorem fld6 : F6 (Fp6.hm p (v6 O36l)) = F6 p := by rw [show v6 O36l = ((1, 0), (0, 0), (0, 0)) by decide +kernel, Fp6.hm_one]
theorem fld7 : F6 (Fp6.hs (v6 (F6 (Fp6.ha p q))) q) = F6 p :=
  F6_eq ((Fp6.hs_congr (v6_F6 _) E6.rfl).trans (by rw [Fp6.hs_eq, Fp6.ha_assoc, Fp6.ha_hn, Fp6.ha_zero]; exact E6.rfl))
theorem zero_l : F6 O36 = N36d := by decide +kernel
theorem Fz (x : H) : F6 x = N36d ↔ Fp6.Z6 x := by
  rw [← zero_l]
  exact ⟨fun h => (Fp6.Z6_iff x).2 (F6_inj h), fun h => F6_eq ((Fp6.Z6_iff x).1 h)⟩
theorem one_l : F6 ((1, 0), (0, 0), (0, 0)) = O36l := by decide +kernel
end

theorem aw_e4 : F6 (hi (v6 N36d)) = N36d := (Fz _).2 (hi_zero ((Fz _).1 (by decide +kernel)))
theorem aw_e5 : F6 (hm (v6 (F6 (hi (v6 V36d)))) (v6 V36d)) = O36l := by
  rw [← one_l]
  refine F6_eq ((hm_congr (v6_F6 _) E6.rfl).trans ?_)
  rw [hm_comm]
  refine hm_hi (fun h => ?_)
  have h1 := (Fz _).2 h
  exact absurd h1 (by decide +kernel)

end Go.Proofs.YtpkbbdhpdplkeaaDoor.Fp6L
