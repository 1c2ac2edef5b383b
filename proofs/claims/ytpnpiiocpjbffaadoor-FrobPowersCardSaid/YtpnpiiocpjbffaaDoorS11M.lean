/-
  Own text. Layer 11's answers: steps, sums, products, numbers without w and without v. Speaks of no program.
-/
import Derived.Test.YtpnpiiocpjbffaaDoorS11R
import Derived.Test.YtpnpiiocpjbffaaDoorMFrob
namespace Go.Proofs.YtpnpiiocpjbffaaDoor.S11M
set_option linter.unusedVariables false
set_option maxRecDepth 100000
open Go Go.RowKit Go.Proofs.YtpnpiiocpjbffaaDoor.Reg Go.Proofs.YtpnpiiocpjbffaaDoor.Base Go.Proofs.YtpnpiiocpjbffaaDoor.Limb Go.Proofs.YtpnpiiocpjbffaaDoor.Fp Go.Proofs.YtpnpiiocpjbffaaDoor.Fp2 Go.Proofs.YtpnpiiocpjbffaaDoor.Fp6 Go.Proofs.YtpnpiiocpjbffaaDoor.Fp12 Go.Proofs.YtpnpiiocpjbffaaDoor.Frob Go.Proofs.YtpnpiiocpjbffaaDoor.S11R
section
variable (m n : Int) (a b : List Int)
theorem g12_g12 : g12 m (g12 n a) = g12 (n + m) a := by
  refine F12_eq ((pn_congr (v12_F12 _) _).trans ?_)
  rw [← pn_plus]
  have h := pn_mod (v12 a) ((n % 12).toNat + (m % 12).toNat)
  rwa [show ((n % 12).toNat + (m % 12).toNat) % 12 = ((n + m) % 12).toNat by omega] at h
theorem g12_mod : g12 (n % 12) a = g12 n a := by
  show F12 (pn (n % 12 % 12).toNat _) = F12 (pn (n % 12).toNat _)
  rw [Int.emod_emod]
theorem g12_0 : g12 0 a = F12 (v12 a) := rfl
theorem g12_step : g12 1 (g12 n a) = g12 (n % 12 + 1) a := by
  rw [← g12_mod n a, g12_g12]
theorem g12_back : g12 (-(n % 12)) (g12 (n % 12) a) = F12 (v12 a) := by
  rw [g12_g12, Int.add_right_neg]
  exact g12_0 a
theorem g12_add : g12 n (F12 (ka (v12 a) (v12 b))) = F12 (ka (v12 (g12 n a)) (v12 (g12 n b))) :=
  F12_eq (((pn_congr (v12_F12 _) _).trans (pn_add _ _ _)).trans (ka_congr (v12_F12 _).symm (v12_F12 _).symm))
theorem g12_mul : g12 n (F12 (km (v12 a) (v12 b))) = F12 (km (v12 (g12 n a)) (v12 (g12 n b))) := by
  refine F12_eq ((pn_congr (v12_F12 _) _).trans ?_)
  rw [pn_mul]
  exact km_congr (v12_F12 _).symm (v12_F12 _).symm
theorem g12_6 : g12 6 a = F12 (kc (v12 a)) := F12_eq (pn_6 _)
theorem nm_z36 : Nm 36 N36z := ⟨rfl, words_of _ (by decide)⟩
theorem v6_z36 : v6 N36z = O36 := by decide +kernel
theorem nm_z24 : Nm 24 (List.replicate 24 0) := ⟨rfl, words_of _ (by decide)⟩
variable {a b}
theorem v6_app {x y : List Int} (h : Nm 12 x) : v6 (x ++ y) = (v2 x, v2 (seg 0 12 y), v2 (seg 12 12 y)) := by
  have e1 : seg 0 12 (x ++ y) = x := List.take_left' h.len
  have e2 : seg 12 12 (x ++ y) = seg 0 12 y := by rw [seg, seg, List.drop_left' h.len]; rfl
  have e3 : seg 24 12 (x ++ y) = seg 12 12 y := by
    rw [seg, seg, ← List.drop_drop (i := 12) (j := 12), List.drop_left' h.len]
  rw [v6, e1, e2, e3]
theorem v6_z {x : List Int} (h : Nm 12 x) : v6 (x ++ List.replicate 24 0) = (v2 x, (0, 0), (0, 0)) := by
  rw [v6_app h]
  have e : v2 (seg 0 12 (List.replicate 24 0)) = (0, 0) := by decide +kernel
  have e2 : v2 (seg 12 12 (List.replicate 24 0)) = (0, 0) := by decide +kernel
  rw [e, e2]
theorem nm_b {x : List Int} (h : Nm 12 x) : Nm 36 (x ++ List.replicate 24 0) := h.app nm_z24
theorem v12_z {x : List Int} (h : Nm 36 x) : v12 (x ++ N36z) = (v6 x, O36) := by rw [v12_app h nm_z36, v6_z36]
theorem g12_w (h : Nm 36 a) : g12 n (a ++ N36z) = F6 (fn6 (n % 12).toNat (v6 a)) ++ N36z := by
  show F12 (pn _ (v12 (a ++ N36z))) = _
  rw [v12_z h, F12_eq (pn_h _ _)]
  rw [show F12 (fn6 (n % 12).toNat (v6 a), O36) = F6 (fn6 (n % 12).toNat (v6 a)) ++ F6 O36 from rfl, show F6 O36 = N36z by decide +kernel]
theorem g6_eq (h : Nm 36 a) : g6 n a = F6 (fn6 (n % 6).toNat (v6 a)) := by
  show seg 0 36 (g12 (n % 6) (a ++ N36z)) = _
  rw [g12_w _ h, show n % 6 % 12 = n % 6 by omega]
  exact List.take_left' (Fp6.Nm.F6 _).len
theorem g12_g6 (h : Nm 36 a) : g12 n (a ++ N36z) = g6 n a ++ N36z := by
  rw [g12_w _ h, g6_eq _ h, F6_eq (fn6_mod _ _), show (n % 12).toNat % 6 = (n % 6).toNat by omega]
theorem g2_eq (h : Nm 12 a) : g2 n a = F2 (fn2 (n % 2).toNat (v2 a)) := by
  show seg 0 12 (seg 0 36 (g12 (n % 2) (a ++ List.replicate 24 0 ++ N36z))) = _
  rw [g12_w _ (nm_b h), v6_z h, fn6_g, show n % 2 % 12 = n % 2 by omega]
  have e : seg 0 36 (F6 (fn2 (n % 2).toNat (v2 a), (0, 0), (0, 0)) ++ N36z) = F6 (fn2 (n % 2).toNat (v2 a), (0, 0), (0, 0)) := List.take_left' (Fp6.Nm.F6 _).len
  rw [e]
  exact seg_F6a _
theorem g6_g2 (h : Nm 12 a) : g6 n (a ++ List.replicate 24 0) = g2 n a ++ List.replicate 24 0 := by
  rw [g6_eq _ (nm_b h), g2_eq _ h, v6_z h, fn6_g, fn2_mod, show (n % 6).toNat % 2 = (n % 2).toNat by omega]
  have e : F2 (0, 0) = List.replicate 12 0 := by decide +kernel
  show F2 _ ++ (F2 (0, 0) ++ F2 (0, 0)) = _
  rw [e]
  rfl
theorem g6_mod (a : List Int) : g6 (n % 6) a = g6 n a := by
  show seg 0 36 (g12 (n % 6 % 6) _) = _
  rw [Int.emod_emod]
theorem g2_mod (a : List Int) : g2 (n % 2) a = g2 n a := by
  show seg 0 12 (seg 0 36 (g12 (n % 2 % 2) _)) = _
  rw [Int.emod_emod]
theorem g6_mul (h : Nm 36 a) (h' : Nm 36 b) : g6 n (F6 (hm (v6 a) (v6 b))) = F6 (hm (v6 (g6 n a)) (v6 (g6 n b))) := by
  rw [g6_eq _ (Fp6.Nm.F6 _), g6_eq _ h, g6_eq _ h']
  have c : ∀ {x y : H}, E6 x y → ∀ k, E6 (fn6 k x) (fn6 k y) := fun {x y} e k => by
    have := ((pn_h x k).symm.trans (pn_congr (show E12 (x, O36) (y, O36) from ⟨e, E6.rfl⟩) k)).trans (pn_h y k)
    exact this.1
  exact F6_eq (((c (v6_F6 _) _).trans (fn6_hm _ _ _)).trans (hm_congr (v6_F6 _).symm (v6_F6 _).symm))
theorem g2_1 (h : Nm 12 a) : g2 1 a = F2 (gc (v2 a)) := g2_eq 1 h
theorem g2_2 (h : Nm 12 a) : g2 2 a = F2 (v2 a) := g2_eq 2 h
theorem v2_k {k : List Int} (h : Nm 6 k) : v2 (k ++ List.replicate 6 0) = (num k, 0) := by
  have e1 : seg 0 6 (k ++ List.replicate 6 0) = k := List.take_left' h.len
  have e2 : seg 6 6 (k ++ List.replicate 6 (0 : Int)) = List.replicate 6 0 := by rw [seg, List.drop_left' h.len]; rfl
  rw [v2, e1, e2, show num (List.replicate 6 0) = 0 by decide +kernel]
theorem nm_z6 : Nm 6 (List.replicate 6 0) := ⟨rfl, words_of _ (by decide)⟩
/-- A number of the base field stays. -/
theorem g12_base {k : List Int} (h : Nm 6 k) : g12 n (k ++ List.replicate 6 0 ++ List.replicate 24 0 ++ N36z) = F12 (v12 (k ++ List.replicate 6 0 ++ List.replicate 24 0 ++ N36z)) := by
  have h2 : Nm 12 (k ++ List.replicate 6 0) := h.app nm_z6
  show F12 (pn _ (v12 _)) = _
  rw [v12_z (nm_b h2), v6_z h2, v2_k h]
  exact F12_eq (pn_fix (ph_base (num k)) _)
theorem g2_pow (h : Nm 12 a) : g2 1 a = F2 (gp (v2 a) (num pL).toNat) := by
  rw [g2_1 h, num_pL]
  exact (F2_eq (Fp2.frob (v2 a))).symm
end
end Go.Proofs.YtpnpiiocpjbffaaDoor.S11M
