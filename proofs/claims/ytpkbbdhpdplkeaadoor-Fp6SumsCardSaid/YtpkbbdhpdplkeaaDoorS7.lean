/-
  Own text. Layer 7 by the reckoner: the landed package, the document's answer.
-/
import Derived.Test.YtpkbbdhpdplkeaaDoorSxH
import Derived.Test.YtpkbbdhpdplkeaaDoorFp2Alg
import Derived.Test.YtpkbbdhpdplkeaaDoorFp2Eq
namespace Go.Proofs.YtpkbbdhpdplkeaaDoor.S7
set_option linter.unusedVariables false
set_option linter.unusedSimpArgs false
open Go Go.RowKit Go.Proofs.YtpkbbdhpdplkeaaDoor.Reg Go.Proofs.YtpkbbdhpdplkeaaDoor.Base Go.Proofs.YtpkbbdhpdplkeaaDoor.Limb Go.Proofs.YtpkbbdhpdplkeaaDoor.Sx Go.Proofs.YtpkbbdhpdplkeaaDoor.Fp Go.Proofs.YtpkbbdhpdplkeaaDoor.Fp2

theorem pReduce : Con Tryd.prog GlobD 45 [6] (f1 fun x => W 6 (Fp.fe (num x))) := .un (fun _ _ => .fe _) (fun x h w g => Fp2.pRed h w g.toGlob)
theorem pAdd : Con Tryd.prog GlobD 46 [6, 6] (f2 fun x y => W 6 (Fp.fe (num x + num y))) := .bi (fun _ _ _ _ => .fe _) (fun x h y k w g => Fp2.pAdd h k w g.toGlob)
theorem pSub : Con Tryd.prog GlobD 43 [6, 6] (f2 fun x y => W 6 (Fp.fe (num x - num y))) := .bi (fun _ _ _ _ => .fe _) (fun x h y k w g => Fp2.pSub h k w g.toGlob)
theorem pNeg : Con Tryd.prog GlobD 55 [6] (f1 fun x => W 6 (Fp.fe (-num x))) := .un (fun _ _ => .fe _) (fun x h w g => Fp2.pNeg h w g.toGlob)
theorem pMul : Con Tryd.prog GlobD 49 [6, 6] (f2 fun x y => W 6 (Fp.fe (num x * num y))) := .bi (fun _ _ _ _ => .fe _) (fun x h y k w g => Fp2.pMul h k w g.toGlob)
theorem pInv : Con Tryd.prog GlobD 54 [6] (f1 fun x => W 6 (Fp.fe (pw (num x) (PP - 2)))) := .un (fun _ _ => .fe _) (fun x h w g => Fp2.pInv h w g)
theorem rReduce : Con Tryd.prog GlobD 56 [6] (f1 fun x => W 6 (Fp.fe (num x))) := .un (fun _ _ => .fe _) (fun x h w _ => Fp2.rRed h w)
theorem rAdd : Con Tryd.prog GlobD 57 [6, 6] (f2 fun x y => W 6 (Fp.fe (num x + num y))) := .bi (fun _ _ _ _ => .fe _) (fun x h y k w _ => Fp2.rAdd h k w)
theorem rSub : Con Tryd.prog GlobD 59 [6, 6] (f2 fun x y => W 6 (Fp.fe (num x - num y))) := .bi (fun _ _ _ _ => .fe _) (fun x h y k w _ => Fp2.rSub h k w)
theorem rNeg : Con Tryd.prog GlobD 58 [6] (f1 fun x => W 6 (Fp.fe (-num x))) := .un (fun _ _ => .fe _) (fun x h w _ => Fp2.rNeg h w)
theorem rMul : Con Tryd.prog GlobD 60 [6, 6] (f2 fun x y => W 6 (Fp.fe (num x * num y))) := .bi (fun _ _ _ _ => .fe _) (fun x h y k w _ => Fp2.rMul h k w)
theorem rInv : Con Tryd.prog GlobD 63 [6] (f1 fun x => W 6 (Fp.fe (pw (num x) (PP - 2)))) := .un (fun _ _ => .fe _) (fun x h w _ => Fp2.rInv h w)
def L0 : List (Fact Tryd.prog GlobD) := pReduce.fact (.con Tryd.func45 rfl (by decide) pReduce) ::
  pAdd.fact (.con Tryd.func46 rfl (by decide) pAdd) ::
  pSub.fact (.con Tryd.func43 rfl (by decide) pSub) ::
  pNeg.fact (.con Tryd.func55 rfl (by decide) pNeg) ::
  pMul.fact (.con Tryd.func49 rfl (by decide) pMul) ::
  pInv.fact (.con Tryd.func54 rfl (by decide) pInv) ::
  rReduce.fact (.con Tryd.func56 rfl (by decide) rReduce) ::
  rAdd.fact (.con Tryd.func57 rfl (by decide) rAdd) ::
  rSub.fact (.con Tryd.func59 rfl (by decide) rSub) ::
  rNeg.fact (.con Tryd.func58 rfl (by decide) rNeg) ::
  rMul.fact (.con Tryd.func60 rfl (by decide) rMul) ::
  rInv.fact (.con Tryd.func63 rfl (by decide) rInv) ::
  []
def X0 : Cx := ⟨[], tb L0⟩
theorem X0_ok : CxOk Tryd.prog X0 GlobD := cx_ok L0 trivial (by kernel_rfl)
def L1 : List (Fact Tryd.prog GlobD) := ⟨44, entI 44 X0 9, .inline X0_ok GlobD.keep Tryd.func44 rfl (by decide)⟩ ::
  ⟨50, entI 50 X0 9, .inline X0_ok GlobD.keep Tryd.func50 rfl (by decide)⟩ ::
  ⟨51, entI 51 X0 9, .inline X0_ok GlobD.keep Tryd.func51 rfl (by decide)⟩ ::
  L0
def X1 : Cx := ⟨[], tb L1⟩
theorem X1_ok : CxOk Tryd.prog X1 GlobD := cx_ok L1 trivial (by kernel_rfl)
def L2 : List (Fact Tryd.prog GlobD) := ⟨48, entI 48 X1 9, .inline X1_ok GlobD.keep Tryd.func48 rfl (by decide)⟩ ::
  L1
def X2 : Cx := ⟨[(26, 12)], tb L2⟩
theorem X2_ok : CxOk Tryd.prog X2 GlobD := cx_ok L2 ⟨⟨eqok2, gd2⟩, trivial⟩ (by kernel_rfl)
set_option maxRecDepth 100000 in
theorem lReduce : Con Tryd.prog GlobD 28 [12] (f1 fun a => W 12 (F2 (v2 a))) := .w1 X1_ok GlobD.keep Tryd.func28 9 (fun _ _ => .F2 _) (fun _ _ => rfl) (fun _ => by kernel_rfl)
set_option maxRecDepth 100000 in
theorem lAdd : Con Tryd.prog GlobD 29 [12, 12] (f2 fun a b => W 12 (F2 (ga (v2 a) (v2 b)))) := .w2 X1_ok GlobD.keep Tryd.func29 9 (fun _ _ _ _ => .F2 _) (fun _ _ _ _ => rfl) (fun _ _ => by kernel_rfl)
set_option maxRecDepth 100000 in
theorem lSub : Con Tryd.prog GlobD 36 [12, 12] (f2 fun a b => W 12 (F2 (gs (v2 a) (v2 b)))) := .w2 X1_ok GlobD.keep Tryd.func36 9 (fun _ _ _ _ => .F2 _) (fun _ _ _ _ => rfl) (fun _ _ => by kernel_rfl)
set_option maxRecDepth 100000 in
theorem lNeg : Con Tryd.prog GlobD 32 [12] (f1 fun a => W 12 (F2 (gn (v2 a)))) := .w1 X1_ok GlobD.keep Tryd.func32 9 (fun _ _ => .F2 _) (fun _ _ => rfl) (fun _ => by kernel_rfl)
set_option maxRecDepth 100000 in
theorem lConj : Con Tryd.prog GlobD 53 [12] (f1 fun a => W 12 (F2 (gc (v2 a)))) := .w1 X1_ok GlobD.keep Tryd.func53 9 (fun _ _ => .F2 _) (fun _ _ => rfl) (fun _ => by kernel_rfl)
set_option maxRecDepth 100000 in
theorem lScale : Con Tryd.prog GlobD 52 [12, 6] (f2 fun a k => W 12 (F2 (gk (v2 a) (num k)))) := .w2 X1_ok GlobD.keep Tryd.func52 9 (fun _ _ _ _ => .F2 _) (fun _ _ _ _ => rfl) (fun _ _ => by kernel_rfl)
set_option maxRecDepth 100000 in
theorem lXi : Con Tryd.prog GlobD 27 [12] (f1 fun a => W 12 (F2 (gm (v2 a) (1, 1)))) := .w1 X1_ok GlobD.keep Tryd.func27 9 (fun _ _ => .F2 _) (fun _ _ => xi_v _) (fun _ => by kernel_rfl)
set_option maxRecDepth 100000 in
theorem lSquare : Con Tryd.prog GlobD 47 [12] (f1 fun a => W 12 (F2 (gm (v2 a) (v2 a)))) := .w1 X1_ok GlobD.keep Tryd.func47 9 (fun _ _ => .F2 _) (fun _ _ => square_v _) (fun _ => by kernel_rfl)
def L3 : List (Fact Tryd.prog GlobD) := lSquare.fact (.con Tryd.func47 rfl (by decide) lSquare) ::
  L2
def X3 : Cx := ⟨[(26, 12)], tb L3⟩
theorem X3_ok : CxOk Tryd.prog X3 GlobD := cx_ok L3 ⟨⟨eqok2, gd2⟩, trivial⟩ (by kernel_rfl)
set_option maxRecDepth 100000 in
theorem lMul : Con Tryd.prog GlobD 30 [12, 12] (f2 fun a b => W 12 (F2 (gm (v2 a) (v2 b)))) := by
  intro l hl
  match l, hl with
  | [a, b], hl =>
    by_cases h : a = b
    · subst h
      exact .of X3_ok GlobD.keep Tryd.func30 9 [true] (obs := [⟨decide (a = a), true⟩]) hl (w_ok (.F2 _)) rfl (rfl : W 12 (F2 (gm (v2 a) (v2 a))) = _) ⟨by simp, trivial⟩ (by kernel_rfl)
    · exact .of X3_ok GlobD.keep Tryd.func30 9 [false] (obs := [⟨decide (a = b), false⟩]) hl (w_ok (.F2 _)) rfl (congrArg (W 12) (mul_v a b)) ⟨by simp [h], trivial⟩ (by kernel_rfl)
def L4 : List (Fact Tryd.prog GlobD) := lReduce.fact (.con Tryd.func28 rfl (by decide) lReduce) ::
  lAdd.fact (.con Tryd.func29 rfl (by decide) lAdd) ::
  lSub.fact (.con Tryd.func36 rfl (by decide) lSub) ::
  lNeg.fact (.con Tryd.func32 rfl (by decide) lNeg) ::
  lConj.fact (.con Tryd.func53 rfl (by decide) lConj) ::
  lScale.fact (.con Tryd.func52 rfl (by decide) lScale) ::
  lXi.fact (.con Tryd.func27 rfl (by decide) lXi) ::
  lMul.fact (.con Tryd.func30 rfl (by decide) lMul) ::
  L3
def X4 : Cx := ⟨[], tb L4⟩
theorem X4_ok : CxOk Tryd.prog X4 GlobD := cx_ok L4 trivial (by kernel_rfl)
set_option maxRecDepth 100000 in
theorem lInv : Con Tryd.prog GlobD 31 [12] (f1 fun a => W 12 (F2 (gi (v2 a)))) := .w1 X4_ok GlobD.keep Tryd.func31 9 (fun _ _ => .F2 _) (fun _ _ => F2_eq (inv_v _)) (fun _ => by kernel_rfl)
set_option maxRecDepth 100000 in
theorem qReduce : Con Tryd.prog GlobD 33 [12] (f1 fun a => W 12 (F2 (v2 a))) := .w1 X4_ok GlobD.keep Tryd.func33 9 (fun _ _ => .F2 _) (fun _ _ => rfl) (fun _ => by kernel_rfl)
set_option maxRecDepth 100000 in
theorem qAdd : Con Tryd.prog GlobD 35 [12, 12] (f2 fun a b => W 12 (F2 (ga (v2 a) (v2 b)))) := .w2 X4_ok GlobD.keep Tryd.func35 9 (fun _ _ _ _ => .F2 _) (fun _ _ _ _ => rfl) (fun _ _ => by kernel_rfl)
set_option maxRecDepth 100000 in
theorem qNeg : Con Tryd.prog GlobD 37 [12] (f1 fun a => W 12 (F2 (gn (v2 a)))) := .w1 X4_ok GlobD.keep Tryd.func37 9 (fun _ _ => .F2 _) (fun _ _ => rfl) (fun _ => by kernel_rfl)
set_option maxRecDepth 100000 in
theorem qConj : Con Tryd.prog GlobD 61 [12] (f1 fun a => W 12 (F2 (gc (v2 a)))) := .w1 X4_ok GlobD.keep Tryd.func61 9 (fun _ _ => .F2 _) (fun _ _ => rfl) (fun _ => by kernel_rfl)
set_option maxRecDepth 100000 in
theorem qScale : Con Tryd.prog GlobD 62 [12, 6] (f2 fun a k => W 12 (F2 (gk (v2 a) (num k)))) := .w2 X4_ok GlobD.keep Tryd.func62 9 (fun _ _ _ _ => .F2 _) (fun _ _ _ _ => rfl) (fun _ _ => by kernel_rfl)
theorem qmul_v (a b : List Int) : Fp.fe (num (Fp.fe (num (seg 0 6 a) * num (seg 0 6 b))) - num (Fp.fe (num (seg 6 6 a) * num (seg 6 6 b)))) ++ Fp.fe (num (Fp.fe (num (seg 0 6 a) * num (seg 6 6 b))) + num (Fp.fe (num (seg 6 6 a) * num (seg 0 6 b)))) = F2 (gm (v2 a) (v2 b)) := by
  simp only [fe_subl, fe_subr, fe_addl, fe_addr]
  rfl
set_option maxRecDepth 100000 in
theorem qMul : Con Tryd.prog GlobD 38 [12, 12] (f2 fun a b => W 12 (F2 (gm (v2 a) (v2 b)))) := .w2 X4_ok GlobD.keep Tryd.func38 9 (fun _ _ _ _ => .F2 _) (fun _ _ _ _ => qmul_v _ _) (fun _ _ => by kernel_rfl)
def L5 : List (Fact Tryd.prog GlobD) := qReduce.fact (.con Tryd.func33 rfl (by decide) qReduce) ::
  qAdd.fact (.con Tryd.func35 rfl (by decide) qAdd) ::
  qNeg.fact (.con Tryd.func37 rfl (by decide) qNeg) ::
  qConj.fact (.con Tryd.func61 rfl (by decide) qConj) ::
  qScale.fact (.con Tryd.func62 rfl (by decide) qScale) ::
  qMul.fact (.con Tryd.func38 rfl (by decide) qMul) ::
  L4
def X5 : Cx := ⟨[], tb L5⟩
theorem X5_ok : CxOk Tryd.prog X5 GlobD := cx_ok L5 trivial (by kernel_rfl)
set_option maxRecDepth 100000 in
theorem qSub : Con Tryd.prog GlobD 41 [12, 12] (f2 fun a b => W 12 (F2 (gs (v2 a) (v2 b)))) := .w2 X5_ok GlobD.keep Tryd.func41 9 (fun _ _ _ _ => .F2 _) (fun _ _ _ _ => F2_eq (by rw [gs_eq]; exact ga_congr E2.rfl (v2_F2 _))) (fun _ _ => by kernel_rfl)
theorem qxi_v (a : List Int) : F2 (gm (v2 a) (v2 ([1, 0, 0, 0, 0, 0] ++ [1, 0, 0, 0, 0, 0]))) = F2 (gm (v2 a) (1, 1)) := by rw [show v2 ([1, 0, 0, 0, 0, 0] ++ [1, 0, 0, 0, 0, 0]) = (1, 1) by decide +kernel]
set_option maxRecDepth 100000 in
theorem qXi : Con Tryd.prog GlobD 40 [12] (f1 fun a => W 12 (F2 (gm (v2 a) (1, 1)))) := .w1 X5_ok GlobD.keep Tryd.func40 9 (fun _ _ => .F2 _) (fun _ _ => qxi_v _) (fun _ => by kernel_rfl)
theorem qinv_v (a : List Int) : F2 (gk (v2 (F2 (gc (v2 a)))) (num (Fp.fe (pw (num (seg 0 6 (F2 (gm (v2 a) (v2 (F2 (gc (v2 a)))))))) (PP - 2))))) = F2 (gi (v2 a)) := by
  rw [F2_eq (gm_congr E2.rfl (v2_F2 (gc (v2 a)))), seg_F2a]
  refine F2_eq ((gk_congr (v2_F2 _) ?_))
  rw [nfe]
  refine pw_congr ?_ _
  rw [nfe]
  congr 1
  simp only [gm, gc, gnorm]
  grind
set_option maxRecDepth 100000 in
theorem qInv : Con Tryd.prog GlobD 42 [12] (f1 fun a => W 12 (F2 (gi (v2 a)))) := .w1 X5_ok GlobD.keep Tryd.func42 9 (fun _ _ => .F2 _) (fun _ _ => qinv_v _) (fun _ => by kernel_rfl)
end Go.Proofs.YtpkbbdhpdplkeaaDoor.S7
