/-
  Own text. Layer 9 by the reckoner: the landed package, the document's answer.
-/
import Derived.Test.YtpnpiiocpjbffaaDoorS7
import Derived.Test.YtpnpiiocpjbffaaDoorFp6Spec
namespace Go.Proofs.YtpnpiiocpjbffaaDoor.S9
set_option linter.unusedVariables false
set_option linter.unusedSimpArgs false
open Go Go.RowKit Go.Proofs.YtpnpiiocpjbffaaDoor.Reg Go.Proofs.YtpnpiiocpjbffaaDoor.Base Go.Proofs.YtpnpiiocpjbffaaDoor.Limb Go.Proofs.YtpnpiiocpjbffaaDoor.Sx Go.Proofs.YtpnpiiocpjbffaaDoor.Fp Go.Proofs.YtpnpiiocpjbffaaDoor.Fp2 Go.Proofs.YtpnpiiocpjbffaaDoor.Fp6

def L0 : List (Fact Tryd.prog GlobD) := S7.lReduce.fact (.con Tryd.func26 rfl (by decide) S7.lReduce) ::
  S7.lAdd.fact (.con Tryd.func60 rfl (by decide) S7.lAdd) ::
  S7.lSub.fact (.con Tryd.func43 rfl (by decide) S7.lSub) ::
  S7.lNeg.fact (.con Tryd.func27 rfl (by decide) S7.lNeg) ::
  S7.lXi.fact (.con Tryd.func45 rfl (by decide) S7.lXi) ::
  S7.lMul.fact (.con Tryd.func41 rfl (by decide) S7.lMul) ::
  S7.qReduce.fact (.con Tryd.func61 rfl (by decide) S7.qReduce) ::
  S7.qAdd.fact (.con Tryd.func73 rfl (by decide) S7.qAdd) ::
  S7.qMul.fact (.con Tryd.func74 rfl (by decide) S7.qMul) ::
  S7.qXi.fact (.con Tryd.func75 rfl (by decide) S7.qXi) ::
  []
def X0 : Cx := .of [] (tb L0)
theorem X0_ok : CxOk Tryd.prog X0 GlobD := cx_ok L0 trivial (by kernel_rfl)
def L1 : List (Fact Tryd.prog GlobD) := ⟨44, entI 44 X0 9, .inline X0_ok GlobD.keep Tryd.func44 rfl (by decide)⟩ ::
  L0
def X1 : Cx := .of [] (tb L1)
theorem X1_ok : CxOk Tryd.prog X1 GlobD := cx_ok L1 trivial (by kernel_rfl)
def L2 : List (Fact Tryd.prog GlobD) := ⟨42, entI 42 X1 9, .inline X1_ok GlobD.keep Tryd.func42 rfl (by decide)⟩ ::
  L1
def X2 : Cx := .of [] (tb L2)
theorem X2_ok : CxOk Tryd.prog X2 GlobD := cx_ok L2 trivial (by kernel_rfl)
set_option maxRecDepth 100000 in
theorem lReduce : Con Tryd.prog GlobD 33 [36] (f1 fun a => W 36 (F6 (v6 a))) := .w1 X1_ok GlobD.keep Tryd.func33 9 (fun _ _ => Fp6.Nm.F6 _) (fun _ _ => rfl) (fun _ => by kernel_rfl)
set_option maxRecDepth 100000 in
theorem lAdd : Con Tryd.prog GlobD 34 [36, 36] (f2 fun a b => W 36 (F6 (Fp6.ha (v6 a) (v6 b)))) := .w2 X1_ok GlobD.keep Tryd.func34 9 (fun _ _ _ _ => Fp6.Nm.F6 _) (fun _ _ _ _ => rfl) (fun _ _ => by kernel_rfl)
set_option maxRecDepth 100000 in
theorem lSub : Con Tryd.prog GlobD 37 [36, 36] (f2 fun a b => W 36 (F6 (Fp6.hs (v6 a) (v6 b)))) := .w2 X1_ok GlobD.keep Tryd.func37 9 (fun _ _ _ _ => Fp6.Nm.F6 _) (fun _ _ _ _ => rfl) (fun _ _ => by kernel_rfl)
set_option maxRecDepth 100000 in
theorem lNeg : Con Tryd.prog GlobD 38 [36] (f1 fun a => W 36 (F6 (Fp6.hn (v6 a)))) := .w1 X1_ok GlobD.keep Tryd.func38 9 (fun _ _ => Fp6.Nm.F6 _) (fun _ _ => rfl) (fun _ => by kernel_rfl)
set_option maxRecDepth 100000 in
theorem lV : Con Tryd.prog GlobD 36 [36] (f1 fun a => W 36 (F6 (Fp6.hv (v6 a)))) := .w1 X1_ok GlobD.keep Tryd.func36 9 (fun _ _ => Fp6.Nm.F6 _) (fun _ _ => rfl) (fun _ => by kernel_rfl)
theorem cross (x y z t : G) : gs (gm (ga x y) (ga z t)) (ga (gm x z) (gm y t)) = ga (gm x t) (gm y z) := by
  obtain ⟨x0, x1⟩ := x; obtain ⟨y0, y1⟩ := y; obtain ⟨z0, z1⟩ := z; obtain ⟨t0, t1⟩ := t
  apply Prod.ext <;> simp only [gs, gm, ga] <;> grind
theorem ga_swap (x y z : G) : ga (ga x z) y = ga (ga x y) z := by rw [ga_assoc, ga_comm z y, ← ga_assoc]
theorem f2l {f : G → G → G} (hf : ∀ {p p' q q' : G}, E2 p p' → E2 q q' → E2 (f p q) (f p' q')) (x : G) (y : G) : F2 (f (v2 (F2 x)) y) = F2 (f x y) := F2_eq (hf (v2_F2 _) E2.rfl)
theorem f2r {f : G → G → G} (hf : ∀ {p p' q q' : G}, E2 p p' → E2 q q' → E2 (f p q) (f p' q')) (x : G) (y : G) : F2 (f x (v2 (F2 y))) = F2 (f x y) := F2_eq (hf E2.rfl (v2_F2 _))
theorem al (x y : G) : F2 (ga (v2 (F2 x)) y) = F2 (ga x y) := f2l ga_congr x y
theorem ar (x y : G) : F2 (ga x (v2 (F2 y))) = F2 (ga x y) := f2r ga_congr x y
theorem sl (x y : G) : F2 (gs (v2 (F2 x)) y) = F2 (gs x y) := f2l gs_congr x y
theorem sr (x y : G) : F2 (gs x (v2 (F2 y))) = F2 (gs x y) := f2r gs_congr x y
theorem ml (x y : G) : F2 (gm (v2 (F2 x)) y) = F2 (gm x y) := f2l gm_congr x y
theorem mr (x y : G) : F2 (gm x (v2 (F2 y))) = F2 (gm x y) := f2r gm_congr x y
theorem z2 : v2 [0, 0, 0, 0, 0, 0, 0, 0, 0, 0, 0, 0] = (0, 0) := by decide
theorem f6 {p q r x y z : G} (h1 : p = x) (h2 : q = y) (h3 : r = z) : F2 p ++ F2 q ++ F2 r = F6 (x, y, z) := by subst h1 h2 h3; rfl
theorem lmul_v (a b : List Int) : F2 (ga (v2 (F2 (gm (v2 (seg 0 12 a)) (v2 (seg 0 12 b))))) (v2 (F2 (gm (v2 (F2 (gs (v2 (F2 (gm (v2 (F2 (ga (v2 (seg 12 12 a)) (v2 (seg 24 12 a))))) (v2 (F2 (ga (v2 (seg 12 12 b)) (v2 (seg 24 12 b)))))))) (v2 (F2 (ga (v2 (F2 (gm (v2 (seg 12 12 a)) (v2 (seg 12 12 b))))) (v2 (F2 (gm (v2 (seg 24 12 a)) (v2 (seg 24 12 b))))))))))) (1, 1))))) ++ F2 (ga (v2 (F2 (gs (v2 (F2 (gm (v2 (F2 (ga (v2 (seg 0 12 a)) (v2 (seg 12 12 a))))) (v2 (F2 (ga (v2 (seg 0 12 b)) (v2 (seg 12 12 b)))))))) (v2 (F2 (ga (v2 (F2 (gm (v2 (seg 0 12 a)) (v2 (seg 0 12 b))))) (v2 (F2 (gm (v2 (seg 12 12 a)) (v2 (seg 12 12 b))))))))))) (v2 (F2 (gm (v2 (F2 (gm (v2 (seg 24 12 a)) (v2 (seg 24 12 b))))) (1, 1))))) ++ F2 (ga (v2 (F2 (gs (v2 (F2 (gm (v2 (F2 (ga (v2 (seg 0 12 a)) (v2 (seg 24 12 a))))) (v2 (F2 (ga (v2 (seg 0 12 b)) (v2 (seg 24 12 b)))))))) (v2 (F2 (ga (v2 (F2 (gm (v2 (seg 0 12 a)) (v2 (seg 0 12 b))))) (v2 (F2 (gm (v2 (seg 24 12 a)) (v2 (seg 24 12 b))))))))))) (v2 (F2 (gm (v2 (seg 12 12 a)) (v2 (seg 12 12 b)))))) = F6 (Fp6.hm (v6 a) (v6 b)) := by
  simp only [al, ar, sl, sr, ml, mr]
  rw [cross, cross, cross]
  exact f6 rfl rfl (ga_swap _ _ _)
set_option maxRecDepth 100000 in
theorem lMul : Con Tryd.prog GlobD 23 [36, 36] (f2 fun a b => W 36 (F6 (Fp6.hm (v6 a) (v6 b)))) := .w2 X2_ok GlobD.keep Tryd.func23 9 (fun _ _ _ _ => Fp6.Nm.F6 _) (fun _ _ _ _ => lmul_v _ _) (fun _ _ => by kernel_rfl)
def L3 : List (Fact Tryd.prog GlobD) := lReduce.fact (.con Tryd.func33 rfl (by decide) lReduce) ::
  lAdd.fact (.con Tryd.func34 rfl (by decide) lAdd) ::
  lSub.fact (.con Tryd.func37 rfl (by decide) lSub) ::
  lNeg.fact (.con Tryd.func38 rfl (by decide) lNeg) ::
  lV.fact (.con Tryd.func36 rfl (by decide) lV) ::
  lMul.fact (.con Tryd.func23 rfl (by decide) lMul) ::
  L1
def X3 : Cx := .of [] (tb L3)
theorem X3_ok : CxOk Tryd.prog X3 GlobD := cx_ok L3 trivial (by kernel_rfl)
theorem nrm_r (p q : H) : ga (ga (gm p.1 q.1) (gm (gm p.2.1 q.2.2) (1, 1))) (gm (gm p.2.2 q.2.1) (1, 1)) = (hm p q).1 := by
  obtain ⟨⟨a0, a1⟩, ⟨b0, b1⟩, c0, c1⟩ := p
  obtain ⟨⟨d0, d1⟩, ⟨e0, e1⟩, f0, f1⟩ := q
  apply Prod.ext <;> simp only [hm, gx, ga, gm] <;> grind
theorem linv_v (a : List Int) : F6 (Fp6.hk (v6 (F2 (gs (v2 (F2 (gm (v2 (seg 0 12 a)) (v2 (seg 0 12 a))))) (v2 (F2 (gm (v2 (F2 (gm (v2 (seg 12 12 a)) (v2 (seg 24 12 a))))) (1, 1))))) ++ F2 (gs (v2 (F2 (gm (v2 (F2 (gm (v2 (seg 24 12 a)) (v2 (seg 24 12 a))))) (1, 1)))) (v2 (F2 (gm (v2 (seg 0 12 a)) (v2 (seg 12 12 a)))))) ++ F2 (gs (v2 (F2 (gm (v2 (seg 12 12 a)) (v2 (seg 12 12 a))))) (v2 (F2 (gm (v2 (seg 0 12 a)) (v2 (seg 24 12 a)))))))) (v2 (F2 (gi (v2 (F2 (ga (v2 (F2 (ga (v2 (F2 (gm (v2 (seg 0 12 a)) (v2 (F2 (gs (v2 (F2 (gm (v2 (seg 0 12 a)) (v2 (seg 0 12 a))))) (v2 (F2 (gm (v2 (F2 (gm (v2 (seg 12 12 a)) (v2 (seg 24 12 a))))) (1, 1)))))))))) (v2 (F2 (gm (v2 (F2 (gm (v2 (seg 12 12 a)) (v2 (F2 (gs (v2 (F2 (gm (v2 (seg 12 12 a)) (v2 (seg 12 12 a))))) (v2 (F2 (gm (v2 (seg 0 12 a)) (v2 (seg 24 12 a))))))))))) (1, 1))))))) (v2 (F2 (gm (v2 (F2 (gm (v2 (seg 24 12 a)) (v2 (F2 (gs (v2 (F2 (gm (v2 (F2 (gm (v2 (seg 24 12 a)) (v2 (seg 24 12 a))))) (1, 1)))) (v2 (F2 (gm (v2 (seg 0 12 a)) (v2 (seg 12 12 a))))))))))) (1, 1))))))))))) = F6 (Fp6.hi (v6 a)) := by
  simp only [al, ar, sl, sr, ml, mr]
  exact F6_eq (hk_congr (v6_F6 (Fp6.hc (v6 a))) ((v2_F2 _).trans (gi_congr ((v2_F2 _).trans (by rw [← nrm_r (v6 a) (Fp6.hc (v6 a))]; exact E2.rfl)))))
set_option maxRecDepth 100000 in
theorem qReduce : Con Tryd.prog GlobD 49 [36] (f1 fun a => W 36 (F6 (v6 a))) := .w1 X0_ok GlobD.keep Tryd.func49 9 (fun _ _ => Fp6.Nm.F6 _) (fun _ _ => rfl) (fun _ => by kernel_rfl)
set_option maxRecDepth 100000 in
theorem qAdd : Con Tryd.prog GlobD 62 [36, 36] (f2 fun a b => W 36 (F6 (Fp6.ha (v6 a) (v6 b)))) := .w2 X0_ok GlobD.keep Tryd.func62 9 (fun _ _ _ _ => Fp6.Nm.F6 _) (fun _ _ _ _ => rfl) (fun _ _ => by kernel_rfl)
theorem gz (x : G) : ga (0, 0) x = x := by rw [ga_comm, ga_zero]
theorem qmul_v (a b : List Int) : F2 (ga (v2 (F2 (ga (v2 ([0, 0, 0, 0, 0, 0, 0, 0, 0, 0, 0, 0])) (v2 (F2 (gm (v2 (seg 0 12 a)) (v2 (seg 0 12 b)))))))) (v2 (F2 (gm (v2 (F2 (ga (v2 (F2 (ga (v2 ([0, 0, 0, 0, 0, 0, 0, 0, 0, 0, 0, 0])) (v2 (F2 (gm (v2 (seg 12 12 a)) (v2 (seg 24 12 b)))))))) (v2 (F2 (gm (v2 (seg 24 12 a)) (v2 (seg 12 12 b)))))))) (1, 1))))) ++ F2 (ga (v2 (F2 (ga (v2 (F2 (ga (v2 ([0, 0, 0, 0, 0, 0, 0, 0, 0, 0, 0, 0])) (v2 (F2 (gm (v2 (seg 0 12 a)) (v2 (seg 12 12 b)))))))) (v2 (F2 (gm (v2 (seg 12 12 a)) (v2 (seg 0 12 b)))))))) (v2 (F2 (gm (v2 (F2 (ga (v2 ([0, 0, 0, 0, 0, 0, 0, 0, 0, 0, 0, 0])) (v2 (F2 (gm (v2 (seg 24 12 a)) (v2 (seg 24 12 b)))))))) (1, 1))))) ++ F2 (ga (v2 (F2 (ga (v2 (F2 (ga (v2 ([0, 0, 0, 0, 0, 0, 0, 0, 0, 0, 0, 0])) (v2 (F2 (gm (v2 (seg 0 12 a)) (v2 (seg 24 12 b)))))))) (v2 (F2 (gm (v2 (seg 12 12 a)) (v2 (seg 12 12 b)))))))) (v2 (F2 (gm (v2 (seg 24 12 a)) (v2 (seg 0 12 b)))))) = F6 (Fp6.hm (v6 a) (v6 b)) := by
  simp only [al, ar, sl, sr, ml, mr, z2, gz]
  exact f6 rfl rfl rfl
set_option maxRecDepth 100000 in
theorem qMul : Con Tryd.prog GlobD 63 [36, 36] (f2 fun a b => W 36 (F6 (Fp6.hm (v6 a) (v6 b)))) := .w2 X0_ok GlobD.keep Tryd.func63 9 (fun _ _ _ _ => Fp6.Nm.F6 _) (fun _ _ _ _ => qmul_v _ _) (fun _ _ => by kernel_rfl)
def L4 : List (Fact Tryd.prog GlobD) := qReduce.fact (.con Tryd.func49 rfl (by decide) qReduce) ::
  qAdd.fact (.con Tryd.func62 rfl (by decide) qAdd) ::
  qMul.fact (.con Tryd.func63 rfl (by decide) qMul) ::
  L3
def X4 : Cx := .of [] (tb L4)
theorem X4_ok : CxOk Tryd.prog X4 GlobD := cx_ok L4 trivial (by kernel_rfl)
theorem hc_r (a : List Int) : (F2 (gs (v2 (F2 (gm (v2 (seg 0 12 a)) (v2 (seg 0 12 a))))) (v2 (F2 (gm (v2 (F2 (gm (v2 (seg 12 12 a)) (v2 (seg 24 12 a))))) (1, 1))))) ++ F2 (gs (v2 (F2 (gm (v2 (F2 (gm (v2 (seg 24 12 a)) (v2 (seg 24 12 a))))) (1, 1)))) (v2 (F2 (gm (v2 (seg 0 12 a)) (v2 (seg 12 12 a)))))) ++ F2 (gs (v2 (F2 (gm (v2 (seg 12 12 a)) (v2 (seg 12 12 a))))) (v2 (F2 (gm (v2 (seg 0 12 a)) (v2 (seg 24 12 a))))))) = F6 (Fp6.hc (v6 a)) := by
  simp only [al, ar, sl, sr, ml, mr]
  rfl
theorem qinv_v (a : List Int) : F6 (Fp6.hk (v6 (F2 (gs (v2 (F2 (gm (v2 (seg 0 12 a)) (v2 (seg 0 12 a))))) (v2 (F2 (gm (v2 (F2 (gm (v2 (seg 12 12 a)) (v2 (seg 24 12 a))))) (1, 1))))) ++ F2 (gs (v2 (F2 (gm (v2 (F2 (gm (v2 (seg 24 12 a)) (v2 (seg 24 12 a))))) (1, 1)))) (v2 (F2 (gm (v2 (seg 0 12 a)) (v2 (seg 12 12 a)))))) ++ F2 (gs (v2 (F2 (gm (v2 (seg 12 12 a)) (v2 (seg 12 12 a))))) (v2 (F2 (gm (v2 (seg 0 12 a)) (v2 (seg 24 12 a)))))))) (v2 (F2 (gi (v2 (seg 0 12 (F6 (Fp6.hm (v6 a) (v6 (F2 (gs (v2 (F2 (gm (v2 (seg 0 12 a)) (v2 (seg 0 12 a))))) (v2 (F2 (gm (v2 (F2 (gm (v2 (seg 12 12 a)) (v2 (seg 24 12 a))))) (1, 1))))) ++ F2 (gs (v2 (F2 (gm (v2 (F2 (gm (v2 (seg 24 12 a)) (v2 (seg 24 12 a))))) (1, 1)))) (v2 (F2 (gm (v2 (seg 0 12 a)) (v2 (seg 12 12 a)))))) ++ F2 (gs (v2 (F2 (gm (v2 (seg 12 12 a)) (v2 (seg 12 12 a))))) (v2 (F2 (gm (v2 (seg 0 12 a)) (v2 (seg 24 12 a)))))))))))))))) = F6 (Fp6.hi (v6 a)) := by
  rw [hc_r, seg_F6a]
  exact F6_eq (hk_congr (v6_F6 _) ((v2_F2 _).trans (gi_congr ((v2_F2 _).trans (hm_congr E6.rfl (v6_F6 _)).1))))
def V1 : List Int := List.replicate 12 0 ++ [1] ++ List.replicate 23 0
theorem qv_v (a : List Int) : F6 (Fp6.hm (v6 a) (v6 V1)) = F6 (Fp6.hv (v6 a)) := by rw [show v6 V1 = ((0, 0), (1, 0), (0, 0)) by decide +kernel, hm_v]
set_option maxRecDepth 100000 in
theorem qV : Con Tryd.prog GlobD 64 [36] (f1 fun a => W 36 (F6 (Fp6.hv (v6 a)))) := .w1 X4_ok GlobD.keep Tryd.func64 9 (fun _ _ => Fp6.Nm.F6 _) (fun _ _ => qv_v _) (fun _ => by kernel_rfl)
end Go.Proofs.YtpnpiiocpjbffaaDoor.S9
