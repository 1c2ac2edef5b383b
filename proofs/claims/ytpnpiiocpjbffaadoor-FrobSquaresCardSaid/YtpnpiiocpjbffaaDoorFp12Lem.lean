/-
  Own text. What layer 10's statements compare; powers of numbers with w by digits of four bits.
-/
import Derived.Test.YtpnpiiocpjbffaaDoorFp12Spec
import Derived.Test.YtpnpiiocpjbffaaDoorFp12Eq
import Derived.Test.YtpnpiiocpjbffaaDoorMLimbR
namespace Go.Proofs.YtpnpiiocpjbffaaDoor.Fp12
set_option linter.unusedVariables false
set_option linter.unusedSimpArgs false
open Go Go.RowKit Go.Proofs.YtpnpiiocpjbffaaDoor.Reg Go.Proofs.YtpnpiiocpjbffaaDoor.Base Go.Proofs.YtpnpiiocpjbffaaDoor.Limb Go.Proofs.YtpnpiiocpjbffaaDoor.Fp Go.Proofs.YtpnpiiocpjbffaaDoor.Fp2 Go.Proofs.YtpnpiiocpjbffaaDoor.Fp6

def O72 : List Int := [1, 0, 0, 0, 0, 0] ++ List.replicate 66 0
theorem nm_O72 : Nm 72 O72 := ⟨rfl, words_of _ (by decide)⟩
theorem F12_one : F12 k1 = O72 := by decide +kernel
theorem v12_O72 : v12 O72 = k1 := by decide +kernel
theorem v12_app {x y : List Int} (h : Nm 36 x) (h' : Nm 36 y) : v12 (x ++ y) = (v6 x, v6 y) := by
  have e1 : seg 0 36 (x ++ y) = x := List.take_left' h.len
  have e2 : seg 36 36 (x ++ y) = y := by
    rw [seg, List.drop_left' h.len, List.take_of_length_le (by rw [h'.len]; omega)]
  rw [v12, e1, e2]
def N72d : List Int := List.replicate 72 0
theorem nm_N72d : Nm 72 N72d := ⟨rfl, words_zeros 72⟩
def W72d : List Int := List.replicate 36 0 ++ [1, 0, 0, 0, 0, 0] ++ List.replicate 30 0
def V72d : List Int := List.replicate 12 0 ++ [1, 0, 0, 0, 0, 0] ++ List.replicate 54 0
def X72d : List Int := [1, 0, 0, 0, 0, 0, 1, 0, 0, 0, 0, 0] ++ List.replicate 60 0
theorem nm_W72d : Nm 72 W72d := ⟨rfl, words_of _ (by decide)⟩
theorem nm_V72d : Nm 72 V72d := ⟨rfl, words_of _ (by decide)⟩
theorem nm_X72d : Nm 72 X72d := ⟨rfl, words_of _ (by decide)⟩
theorem aw_e1 : F12 (km (v12 W72d) (v12 W72d)) = V72d := by decide +kernel
theorem aw_p : F12 (kp (v12 W72d) (num [6]).toNat) = X72d := by decide +kernel
theorem w_6 : Words [6] := words_of _ (by decide)
section
variable (p q r : K)
theorem fld1 : F12 (Fp12.ka p q) = F12 (Fp12.ka q p) := by rw [Fp12.ka_comm]
theorem fld2 : F12 (Fp12.km p q) = F12 (Fp12.km q p) := by rw [Fp12.km_comm]
theorem fld3 : F12 (Fp12.ka (v12 (F12 (Fp12.ka p q))) r) = F12 (Fp12.ka p (v12 (F12 (Fp12.ka q r)))) :=
  F12_eq ((Fp12.ka_congr (v12_F12 _) E12.rfl).trans (by rw [Fp12.ka_assoc]; exact Fp12.ka_congr E12.rfl (v12_F12 _).symm))
theorem fld4 : F12 (Fp12.km (v12 (F12 (Fp12.km p q))) r) = F12 (Fp12.km p (v12 (F12 (Fp12.km q r)))) :=
  F12_eq ((Fp12.km_congr (v12_F12 _) E12.rfl).trans (by rw [Fp12.km_assoc]; exact Fp12.km_congr E12.rfl (v12_F12 _).symm))
theorem fld5 : F12 (Fp12.km p (v12 (F12 (Fp12.ka q r)))) = F12 (Fp12.ka (v12 (F12 (Fp12.km p q))) (v12 (F12 (Fp12.km p r)))) :=
  F12_eq ((Fp12.km_congr E12.rfl (v12_F12 _)).trans (by rw [Fp12.km_ka]; exact Fp12.ka_congr (v12_F12 _).symm (v12_F12 _).symm))
theorem fld6 : F12 (Fp12.km p (v12 O72)) = F12 p := by rw [show v12 O72 = k1 by decide +kernel, Fp12.km_one]
theorem fld7 : F12 (Fp12.ks (v12 (F12 (Fp12.ka p q))) q) = F12 p :=
  F12_eq ((Fp12.ks_congr (v12_F12 _) E12.rfl).trans (by rw [Fp12.ks_eq, Fp12.ka_assoc, Fp12.ka_kn, Fp12.ka_zero]; exact E12.rfl))
theorem zero_l : F12 (O36, O36) = N72d := by decide +kernel
theorem Fz (x : K) : F12 x = N72d ↔ Fp12.Z12 x := by
  rw [← zero_l]
  exact ⟨fun h => (Fp12.Z12_iff x).2 (F12_inj h), fun h => F12_eq ((Fp12.Z12_iff x).1 h)⟩
theorem one_l : F12 k1 = O72 := by decide +kernel
end

theorem aw_e4 : F12 (ki (v12 N72d)) = N72d := (Fz _).2 (ki_zero ((Fz _).1 (by decide +kernel)))
theorem aw_e5 : F12 (km (v12 (F12 (ki (v12 W72d)))) (v12 W72d)) = O72 := by
  rw [← one_l]
  refine F12_eq ((km_congr (v12_F12 _) E12.rfl).trans ?_)
  rw [km_comm]
  refine km_ki (fun h => ?_)
  have h1 := (Fz _).2 h
  exact absurd h1 (by decide +kernel)

def N36z : List Int := List.replicate 36 0
theorem nm_N36z : Nm 36 N36z := ⟨rfl, words_zeros 36⟩
theorem nm_h {x : List Int} (h : Nm 36 x) : Nm 72 (x ++ N36z) := h.app nm_N36z
theorem v6_z : v6 N36z = O36 := by decide +kernel
theorem v12_h {x : List Int} (h : Nm 36 x) : v12 (x ++ N36z) = (v6 x, O36) := by rw [v12_app h nm_N36z, v6_z]
theorem F6_O : F6 O36 = N36z := by decide +kernel
theorem F12_h (p : H) : F12 (p, O36) = F6 p ++ N36z := by rw [F12, F6_O]
section
variable (p q : K)
theorem ck1 : F12 (Fp12.kc (v12 (F12 (Fp12.ka p q)))) = F12 (Fp12.ka (v12 (F12 (Fp12.kc p))) (v12 (F12 (Fp12.kc q)))) :=
  F12_eq ((Fp12.kc_congr (v12_F12 _)).trans (by rw [Fp12.kc_ka]; exact Fp12.ka_congr (v12_F12 _).symm (v12_F12 _).symm))
theorem ck2 : F12 (Fp12.kc (v12 (F12 (Fp12.km p q)))) = F12 (Fp12.km (v12 (F12 (Fp12.kc p))) (v12 (F12 (Fp12.kc q)))) :=
  F12_eq ((Fp12.kc_congr (v12_F12 _)).trans (by rw [Fp12.kc_km]; exact Fp12.km_congr (v12_F12 _).symm (v12_F12 _).symm))
theorem ck3 : F12 (Fp12.kc (v12 (F12 (Fp12.kc p)))) = F12 p :=
  F12_eq ((Fp12.kc_congr (v12_F12 _)).trans (by rw [Fp12.kc_kc]; exact E12.rfl))
end
theorem ck4 (a : List Int) : F12 (Fp12.km (v12 a) (v12 (F12 (Fp12.kc (v12 a))))) = F6 (Fp6.hs (v6 (F6 (hm (v6 (seg 0 36 a)) (v6 (seg 0 36 a))))) (v6 (F6 (hv (v6 (F6 (hm (v6 (seg 36 36 a)) (v6 (seg 36 36 a))))))))) ++ N36z := by
  rw [F12_eq (Fp12.km_congr E12.rfl (v12_F12 _)), Fp12.km_kc, F12_h]
  congr 1
  exact F6_eq (Fp6.hs_congr (v6_F6 _) ((v6_F6 _).trans (hv_congr (v6_F6 _)))).symm
theorem jn_1 (p q : H) : Fp12.ka (p, O36) (q, O36) = (Fp6.ha p q, O36) := Prod.ext rfl (ha_nil _)
theorem jn_2 (p q : H) : Fp12.km (p, O36) (q, O36) = (hm p q, O36) := by
  refine Prod.ext ?_ ?_
  · show Fp6.ha (hm p q) (hv (hm O36 O36)) = hm p q
    rw [hm_nil, show hv O36 = O36 from rfl, ha_nil]
  · show Fp6.ha (hm p O36) (hm O36 q) = O36
    rw [hm_nil, hm_nil', ha_nil]
theorem hi_one {p x : H} (h : E6 (hm p x) ((1, 0), (0, 0), (0, 0))) : E6 x (hi p) := by
  have hp : ¬ Fp6.Z6 p := fun h0 => by
    have := Fp6.Z6.congr h (hm_zl h0)
    exact absurd this.1.1 (by decide +kernel)
  have h1 := hm_congr (E6.rfl (p := hi p)) h
  rw [hm_one, ← hm_assoc, hm_comm (hi p) p] at h1
  have h2 := hm_congr (hm_hi hp) (E6.rfl (p := x))
  rw [hm_one'] at h2
  exact h2.symm.trans h1
theorem jn_3 (p : H) : E12 (Fp12.ki (p, O36)) (hi p, O36) := by
  have e1 : Fp12.kc (p, O36) = (p, O36) := Prod.ext rfl (by show Fp6.hn O36 = O36; rfl)
  have e2 : Fp12.ki (p, O36) = (hm p (hi (hm p p)), O36) := by
    rw [Fp12.ki, e1, jn_2]
    refine Prod.ext rfl ?_
    show hm O36 _ = O36
    exact hm_nil _
  rw [e2]
  refine ⟨?_, E6.rfl⟩
  by_cases hp : Fp6.Z6 p
  · exact ((Fp6.Z6_iff _).1 (hm_zl hp)).trans ((Fp6.Z6_iff _).1 (hi_zero hp)).symm
  · refine hi_one ?_
    rw [← hm_assoc]
    exact hm_hi (fun h => hp (hm_zero h hp))
theorem jn_4 (p : H) : Fp12.kc (p, O36) = (p, O36) := Prod.ext rfl (by show Fp6.hn O36 = O36; rfl)
section
variable {a b : List Int}
theorem wj1 (h : Nm 36 a) (h' : Nm 36 b) : F12 (Fp12.ka (v12 (a ++ N36z)) (v12 (b ++ N36z))) = F6 (Fp6.ha (v6 a) (v6 b)) ++ N36z := by rw [v12_h h, v12_h h', jn_1, F12_h]
theorem wj2 (h : Nm 36 a) (h' : Nm 36 b) : F12 (Fp12.km (v12 (a ++ N36z)) (v12 (b ++ N36z))) = F6 (hm (v6 a) (v6 b)) ++ N36z := by rw [v12_h h, v12_h h', jn_2, F12_h]
theorem wj3 (h : Nm 36 a) : F12 (Fp12.ki (v12 (a ++ N36z))) = F6 (hi (v6 a)) ++ N36z := by rw [v12_h h, F12_eq (jn_3 _), F12_h]
theorem wj4 (h : Nm 36 a) : F12 (Fp12.kc (v12 (a ++ N36z))) = F6 (v6 a) ++ N36z := by rw [v12_h h, jn_4, F12_h]
end

theorem kp_dbl (p : K) (x : Nat) : F12 (km (v12 (F12 (kp p x))) (v12 (F12 (kp p x)))) = F12 (kp p (2 * x)) := by
  rw [show 2 * x = x + x by omega, kp_add]
  exact F12_eq (km_congr (v12_F12 _) (v12_F12 _))
theorem kp_more (a : List Int) (x : Nat) : F12 (km (v12 (F12 (kp (v12 a) x))) (v12 a)) = F12 (kp (v12 a) (x + 1)) := F12_eq (km_congr (v12_F12 _) E12.rfl)
/-- A number's next digit of four bits. -/
theorem digit4 {l : List Int} (hw : Words l) {i s : Nat} (hi : i < l.length) (hs : s + 4 ≤ 64) : num l / tp (64 * i + s) = 16 * (num l / tp (64 * i + (s + 4))) + nth l i / 2 ^ s % 16 := by
  obtain ⟨V, hV⟩ : ∃ V, num l / tp (64 * i + s) = V := ⟨_, rfl⟩
  have h16 : num l / tp (64 * i + (s + 4)) = V / 16 := by
    rw [← hV, ← Nat.add_assoc, tp_add, ← Int.ediv_ediv_of_nonneg (Int.le_of_lt (tp_pos _))]
    rfl
  have hm : V % 16 = nth l i / 2 ^ s % 16 := by
    have e1 : num l / tp (64 * i) = num (l.drop i) := by
      rw [num_split l i (by omega), tp_wp]
      rw [Int.add_mul_ediv_left _ _ (by have := wp_pos i; omega), Int.ediv_eq_zero_of_lt (low_bounds hw i).1 (low_bounds hw i).2, Int.zero_add]
    have e2 : V = (nth l i + 18446744073709551616 * num (l.drop (i + 1))) / tp s := by
      rw [← hV, tp_add, ← Int.ediv_ediv_of_nonneg (Int.le_of_lt (tp_pos _)), e1, num_drop hi]
    obtain ⟨t, ht⟩ : ∃ t, s + 4 + t = 64 := ⟨60 - s, by omega⟩
    have e3 : (18446744073709551616 : Int) = tp s * (16 * tp t) := by
      have : tp 64 = tp s * (16 * tp t) := by
        rw [← ht, tp_add, tp_add, Int.mul_assoc]
        rfl
      rw [← this]
      decide
    rw [e2, e3, Int.mul_assoc, Int.add_mul_ediv_left _ _ (by have := tp_pos s; omega), Int.mul_assoc, Int.add_mul_emod_self_left]
    rfl
  rw [h16, hV, ← hm]
  omega
theorem kp_digit (p : K) (x d : Nat) : F12 (km (v12 (F12 (kp p x))) (v12 (F12 (kp p d)))) = F12 (kp p (x + d)) := by
  rw [kp_add]
  exact F12_eq (km_congr (v12_F12 _) (v12_F12 _))
/-- A power that is 1 stays 1. -/
theorem kp_ones (p : K) {x : Nat} (h : F12 (kp p x) = O72) : F12 (kp p (16 * x)) = O72 := by
  have step : ∀ {y : Nat}, F12 (kp p y) = F12 k1 → F12 (kp p (2 * y)) = F12 k1 := fun {y} h => by
    rw [show 2 * y = y + y by omega, kp_add]
    refine F12_eq ((km_congr (F12_inj h) (F12_inj h)).trans ?_)
    rw [km_one]
    exact E12.rfl
  rw [← F12_one] at h ⊢
  have := step (step (step (step h)))
  rwa [show 2 * (2 * (2 * (2 * x))) = 16 * x by omega] at this
end Go.Proofs.YtpnpiiocpjbffaaDoor.Fp12
