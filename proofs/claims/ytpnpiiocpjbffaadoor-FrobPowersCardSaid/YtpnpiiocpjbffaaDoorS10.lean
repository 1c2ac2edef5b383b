/-
  Own text. Layer 10 by the reckoner: the landed package, the document's answer.
-/
import Derived.Test.YtpnpiiocpjbffaaDoorS9
import Derived.Test.YtpnpiiocpjbffaaDoorFp12Lem
namespace Go.Proofs.YtpnpiiocpjbffaaDoor.S10
set_option linter.unusedVariables false
set_option linter.unusedSimpArgs false
open Go Go.RowKit Go.Proofs.YtpnpiiocpjbffaaDoor.Reg Go.Proofs.YtpnpiiocpjbffaaDoor.Base Go.Proofs.YtpnpiiocpjbffaaDoor.Limb Go.Proofs.YtpnpiiocpjbffaaDoor.Sx Go.Proofs.YtpnpiiocpjbffaaDoor.Fp Go.Proofs.YtpnpiiocpjbffaaDoor.Fp2 Go.Proofs.YtpnpiiocpjbffaaDoor.Fp6 Go.Proofs.YtpnpiiocpjbffaaDoor.Fp12

def L0 : List (Fact Tryd.prog GlobD) := S9.lReduce.fact (.con Tryd.func33 rfl (by decide) S9.lReduce) ::
  S9.lAdd.fact (.con Tryd.func34 rfl (by decide) S9.lAdd) ::
  S9.lSub.fact (.con Tryd.func37 rfl (by decide) S9.lSub) ::
  S9.lNeg.fact (.con Tryd.func38 rfl (by decide) S9.lNeg) ::
  S9.lV.fact (.con Tryd.func36 rfl (by decide) S9.lV) ::
  S9.lMul.fact (.con Tryd.func23 rfl (by decide) S9.lMul) ::
  S9.qReduce.fact (.con Tryd.func49 rfl (by decide) S9.qReduce) ::
  S9.qAdd.fact (.con Tryd.func62 rfl (by decide) S9.qAdd) ::
  S9.qMul.fact (.con Tryd.func63 rfl (by decide) S9.qMul) ::
  S9.qV.fact (.con Tryd.func64 rfl (by decide) S9.qV) ::
  []
def X0 : Cx := .of [] (tb L0)
theorem X0_ok : CxOk Tryd.prog X0 GlobD := cx_ok L0 trivial (by kernel_rfl)
theorem kl {f : K → K → K} (hf : ∀ {p p' q q' : K}, E12 p p' → E12 q q' → E12 (f p q) (f p' q')) (x y : K) : F12 (f (v12 (F12 x)) y) = F12 (f x y) := F12_eq (hf (v12_F12 _) E12.rfl)
theorem kr {f : K → K → K} (hf : ∀ {p p' q q' : K}, E12 p p' → E12 q q' → E12 (f p q) (f p' q')) (x y : K) : F12 (f x (v12 (F12 y))) = F12 (f x y) := F12_eq (hf E12.rfl (v12_F12 _))
theorem hl {f : H → H → H} (hf : ∀ {p p' q q' : H}, E6 p p' → E6 q q' → E6 (f p q) (f p' q')) (x y : H) : F6 (f (v6 (F6 x)) y) = F6 (f x y) := F6_eq (hf (v6_F6 _) E6.rfl)
theorem hr {f : H → H → H} (hf : ∀ {p p' q q' : H}, E6 p p' → E6 q q' → E6 (f p q) (f p' q')) (x y : H) : F6 (f x (v6 (F6 y))) = F6 (f x y) := F6_eq (hf E6.rfl (v6_F6 _))
theorem hal (x y : H) : F6 (Fp6.ha (v6 (F6 x)) y) = F6 (Fp6.ha x y) := hl ha_congr x y
theorem har (x y : H) : F6 (Fp6.ha x (v6 (F6 y))) = F6 (Fp6.ha x y) := hr ha_congr x y
theorem hsl (x y : H) : F6 (Fp6.hs (v6 (F6 x)) y) = F6 (Fp6.hs x y) := hl hs_congr x y
theorem hsr (x y : H) : F6 (Fp6.hs x (v6 (F6 y))) = F6 (Fp6.hs x y) := hr hs_congr x y
theorem hml (x y : H) : F6 (Fp6.hm (v6 (F6 x)) y) = F6 (Fp6.hm x y) := hl hm_congr x y
theorem hmr (x y : H) : F6 (Fp6.hm x (v6 (F6 y))) = F6 (Fp6.hm x y) := hr hm_congr x y
theorem hv_ (x : H) : F6 (Fp6.hv (v6 (F6 x))) = F6 (Fp6.hv x) := F6_eq ⟨gx_congr (v6_F6 x).2.2, (v6_F6 x).1, (v6_F6 x).2.1⟩
theorem hi_ (x : H) : F6 (Fp6.hi (v6 (F6 x))) = F6 (Fp6.hi x) := F6_eq (hi_congr (v6_F6 x))
theorem hmi (x y : H) : F6 (Fp6.hm x (Fp6.hi (v6 (F6 y)))) = F6 (Fp6.hm x (Fp6.hi y)) := F6_eq (hm_congr E6.rfl (hi_congr (v6_F6 _)))
theorem f12 {p q x y : H} (h1 : p = x) (h2 : q = y) : F6 p ++ F6 q = F12 (x, y) := by subst h1 h2; rfl
theorem hcross (x y z t : H) : Fp6.hs (Fp6.hm (Fp6.ha x y) (Fp6.ha z t)) (Fp6.ha (Fp6.hm x z) (Fp6.hm y t)) = Fp6.ha (Fp6.hm x t) (Fp6.hm y z) := by
  rw [hm_ha, Fp12.ha_hm, Fp12.ha_hm]
  generalize Fp6.hm x z = p; generalize Fp6.hm y t = q; generalize Fp6.hm x t = r; generalize Fp6.hm y z = s
  obtain ⟨⟨a0, a1⟩, ⟨b0, b1⟩, c0, c1⟩ := p
  obtain ⟨⟨d0, d1⟩, ⟨e0, e1⟩, f0, f1⟩ := q
  obtain ⟨⟨g0, g1⟩, ⟨h0, h1⟩, i0, i1⟩ := r
  obtain ⟨⟨j0, j1⟩, ⟨k0, k1⟩, l0, l1⟩ := s
  simp only [Fp6.hs, Fp6.ha, gs, ga, Prod.mk.injEq]
  omega
set_option maxRecDepth 100000 in
theorem qReduce : Con Tryd.prog GlobD 31 [72] (f1 fun a => W 72 (F12 (v12 a))) := .w1 X0_ok GlobD.keep Tryd.func31 9 (fun _ _ => Fp12.Nm.F12 _) (fun _ _ => rfl) (fun _ => by kernel_rfl)
theorem qmul_v (a b : List Int) : F6 (Fp6.ha (v6 (F6 (Fp6.hm (v6 (seg 0 36 a)) (v6 (seg 0 36 b))))) (v6 (F6 (Fp6.hv (v6 (F6 (Fp6.hm (v6 (seg 36 36 a)) (v6 (seg 36 36 b))))))))) ++ F6 (Fp6.ha (v6 (F6 (Fp6.hm (v6 (seg 0 36 a)) (v6 (seg 36 36 b))))) (v6 (F6 (Fp6.hm (v6 (seg 36 36 a)) (v6 (seg 0 36 b)))))) = F12 (Fp12.km (v12 a) (v12 b)) := by
  simp only [hal, har, hsl, hsr, hml, hmr, hv_]
  rfl
set_option maxRecDepth 100000 in
theorem qMul : Con Tryd.prog GlobD 51 [72, 72] (f2 fun a b => W 72 (F12 (Fp12.km (v12 a) (v12 b)))) := .w2 X0_ok GlobD.keep Tryd.func51 9 (fun _ _ _ _ => Fp12.Nm.F12 _) (fun _ _ _ _ => qmul_v _ _) (fun _ _ => by kernel_rfl)
def L1 : List (Fact Tryd.prog GlobD) := qReduce.fact (.con Tryd.func31 rfl (by decide) qReduce) ::
  qMul.fact (.con Tryd.func51 rfl (by decide) qMul) ::
  L0
def X1 : Cx := .of [] (tb L1)
theorem X1_ok : CxOk Tryd.prog X1 GlobD := cx_ok L1 trivial (by kernel_rfl)
theorem qinv_v (a : List Int) : F6 (Fp6.hm (v6 (seg 0 36 (F12 (Fp12.kc (v12 a))))) (v6 (F6 (Fp6.hi (v6 (seg 0 36 (F12 (Fp12.km (v12 a) (v12 (F12 (Fp12.kc (v12 a)))))))))))) ++ F6 (Fp6.hm (v6 (seg 36 36 (F12 (Fp12.kc (v12 a))))) (v6 (F6 (Fp6.hi (v6 (seg 0 36 (F12 (Fp12.km (v12 a) (v12 (F12 (Fp12.kc (v12 a)))))))))))) = F12 (Fp12.ki (v12 a)) := by
  rw [kr Fp12.km_congr, seg_F12a, seg_F12a, seg_F12b, hi_]
  simp only [hml, hmr]
  rfl
set_option maxRecDepth 100000 in
theorem qOne : Con Tryd.prog GlobD 50 [] (f0 (W 72 O72)) := .of0 X0_ok GlobD.keep Tryd.func50 9 [] (zs := W 72 O72) (obs := []) (w_ok nm_O72) rfl ⟨rfl, trivial⟩ (by kernel_rfl)
set_option maxRecDepth 100000 in
theorem lReduce : Con Tryd.prog GlobD 18 [72] (f1 fun a => W 72 (F12 (v12 a))) := .w1 X0_ok GlobD.keep Tryd.func18 9 (fun _ _ => Fp12.Nm.F12 _) (fun _ _ => rfl) (fun _ => by kernel_rfl)
set_option maxRecDepth 100000 in
theorem lAdd : Con Tryd.prog GlobD 19 [72, 72] (f2 fun a b => W 72 (F12 (Fp12.ka (v12 a) (v12 b)))) := .w2 X0_ok GlobD.keep Tryd.func19 9 (fun _ _ _ _ => Fp12.Nm.F12 _) (fun _ _ _ _ => rfl) (fun _ _ => by kernel_rfl)
set_option maxRecDepth 100000 in
theorem lNeg : Con Tryd.prog GlobD 28 [72] (f1 fun a => W 72 (F12 (Fp12.kn (v12 a)))) := .w1 X0_ok GlobD.keep Tryd.func28 9 (fun _ _ => Fp12.Nm.F12 _) (fun _ _ => rfl) (fun _ => by kernel_rfl)
set_option maxRecDepth 100000 in
theorem lConj : Con Tryd.prog GlobD 21 [72] (f1 fun a => W 72 (F12 (Fp12.kc (v12 a)))) := .w1 X0_ok GlobD.keep Tryd.func21 9 (fun _ _ => Fp12.Nm.F12 _) (fun _ _ => rfl) (fun _ => by kernel_rfl)
def L2 : List (Fact Tryd.prog GlobD) := ⟨35, entI 35 X0 9, .inline X0_ok GlobD.keep Tryd.func35 rfl (by decide)⟩ ::
  L0
def X2 : Cx := .of [] (tb L2)
theorem X2_ok : CxOk Tryd.prog X2 GlobD := cx_ok L2 trivial (by kernel_rfl)
theorem lmul_v (a b : List Int) : F6 (Fp6.ha (v6 (F6 (Fp6.hm (v6 (seg 0 36 a)) (v6 (seg 0 36 b))))) (v6 (F6 (Fp6.hv (v6 (F6 (Fp6.hm (v6 (seg 36 36 a)) (v6 (seg 36 36 b))))))))) ++ F6 (Fp6.hs (v6 (F6 (Fp6.hm (v6 (F6 (Fp6.ha (v6 (seg 0 36 a)) (v6 (seg 36 36 a))))) (v6 (F6 (Fp6.ha (v6 (seg 0 36 b)) (v6 (seg 36 36 b)))))))) (v6 (F6 (Fp6.ha (v6 (F6 (Fp6.hm (v6 (seg 0 36 a)) (v6 (seg 0 36 b))))) (v6 (F6 (Fp6.hm (v6 (seg 36 36 a)) (v6 (seg 36 36 b))))))))) = F12 (Fp12.km (v12 a) (v12 b)) := by
  simp only [hal, har, hsl, hsr, hml, hmr, hv_]
  exact f12 rfl (hcross _ _ _ _)
set_option maxRecDepth 100000 in
theorem lMul : Con Tryd.prog GlobD 20 [72, 72] (f2 fun a b => W 72 (F12 (Fp12.km (v12 a) (v12 b)))) := .w2 X2_ok GlobD.keep Tryd.func20 9 (fun _ _ _ _ => Fp12.Nm.F12 _) (fun _ _ _ _ => lmul_v _ _) (fun _ _ => by kernel_rfl)
theorem linv_v (a : List Int) : F6 (Fp6.hm (v6 (seg 0 36 a)) (v6 (F6 (Fp6.hi (v6 (F6 (Fp6.hs (v6 (F6 (Fp6.hm (v6 (seg 0 36 a)) (v6 (seg 0 36 a))))) (v6 (F6 (Fp6.hv (v6 (F6 (Fp6.hm (v6 (seg 36 36 a)) (v6 (seg 36 36 a))))))))))))))) ++ F6 (Fp6.hm (v6 (F6 (Fp6.hn (v6 (seg 36 36 a))))) (v6 (F6 (Fp6.hi (v6 (F6 (Fp6.hs (v6 (F6 (Fp6.hm (v6 (seg 0 36 a)) (v6 (seg 0 36 a))))) (v6 (F6 (Fp6.hv (v6 (F6 (Fp6.hm (v6 (seg 36 36 a)) (v6 (seg 36 36 a))))))))))))))) = F12 (Fp12.ki (v12 a)) := by
  simp only [hal, har, hsl, hsr, hml, hmr, hv_]
  simp only [hmi]
  refine f12 ?_ ?_
  · show Fp6.hm _ (Fp6.hi _) = Fp6.hm _ (Fp6.hi (Fp12.km (v12 a) (Fp12.kc (v12 a))).1)
    rw [Fp12.km_kc]
    rfl
  · show Fp6.hm _ (Fp6.hi _) = Fp6.hm _ (Fp6.hi (Fp12.km (v12 a) (Fp12.kc (v12 a))).1)
    rw [Fp12.km_kc]
    rfl
def L3 : List (Fact Tryd.prog GlobD) := lReduce.fact (.con Tryd.func18 rfl (by decide) lReduce) ::
  lAdd.fact (.con Tryd.func19 rfl (by decide) lAdd) ::
  lNeg.fact (.con Tryd.func28 rfl (by decide) lNeg) ::
  lConj.fact (.con Tryd.func21 rfl (by decide) lConj) ::
  lMul.fact (.con Tryd.func20 rfl (by decide) lMul) ::
  L1
def X3 : Cx := .of [(30, 72)] (tb L3)
theorem X3_ok : CxOk Tryd.prog X3 GlobD := cx_ok L3 ⟨⟨eqokk, gdk⟩, trivial⟩ (by kernel_rfl)
end Go.Proofs.YtpnpiiocpjbffaaDoor.S10
