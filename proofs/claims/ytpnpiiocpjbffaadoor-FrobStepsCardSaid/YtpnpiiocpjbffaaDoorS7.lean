/-
  Own text. Layer 7 by the reckoner: the landed package, the document's answer.
-/
import Derived.Test.YtpnpiiocpjbffaaDoorMSx
import Derived.Test.YtpnpiiocpjbffaaDoorFp2Alg
import Derived.Test.YtpnpiiocpjbffaaDoorFp2Eq
namespace Go.Proofs.YtpnpiiocpjbffaaDoor.S7
set_option linter.unusedVariables false
set_option linter.unusedSimpArgs false
open Go Go.RowKit Go.Proofs.YtpnpiiocpjbffaaDoor.Reg Go.Proofs.YtpnpiiocpjbffaaDoor.Base Go.Proofs.YtpnpiiocpjbffaaDoor.Limb Go.Proofs.YtpnpiiocpjbffaaDoor.Sx Go.Proofs.YtpnpiiocpjbffaaDoor.Fp Go.Proofs.YtpnpiiocpjbffaaDoor.Fp2

theorem pReduce : Con Tryd.prog GlobD 39 [6] (f1 fun x => W 6 (Fp.fe (num x))) := .un (fun _ _ => .fe _) (fun x h w g => Fp2.pRed h w g.toGlob)
theorem pAdd : Con Tryd.prog GlobD 59 [6, 6] (f2 fun x y => W 6 (Fp.fe (num x + num y))) := .bi (fun _ _ _ _ => .fe _) (fun x h y k w g => Fp2.pAdd h k w g.toGlob)
theorem pSub : Con Tryd.prog GlobD 53 [6, 6] (f2 fun x y => W 6 (Fp.fe (num x - num y))) := .bi (fun _ _ _ _ => .fe _) (fun x h y k w g => Fp2.pSub h k w g.toGlob)
theorem pNeg : Con Tryd.prog GlobD 40 [6] (f1 fun x => W 6 (Fp.fe (-num x))) := .un (fun _ _ => .fe _) (fun x h w g => Fp2.pNeg h w g.toGlob)
theorem pMul : Con Tryd.prog GlobD 55 [6, 6] (f2 fun x y => W 6 (Fp.fe (num x * num y))) := .bi (fun _ _ _ _ => .fe _) (fun x h y k w g => Fp2.pMul h k w g.toGlob)
theorem rReduce : Con Tryd.prog GlobD 72 [6] (f1 fun x => W 6 (Fp.fe (num x))) := .un (fun _ _ => .fe _) (fun x h w _ => Fp2.rRed h w)
theorem rAdd : Con Tryd.prog GlobD 82 [6, 6] (f2 fun x y => W 6 (Fp.fe (num x + num y))) := .bi (fun _ _ _ _ => .fe _) (fun x h y k w _ => Fp2.rAdd h k w)
theorem rSub : Con Tryd.prog GlobD 83 [6, 6] (f2 fun x y => W 6 (Fp.fe (num x - num y))) := .bi (fun _ _ _ _ => .fe _) (fun x h y k w _ => Fp2.rSub h k w)
theorem rNeg : Con Tryd.prog GlobD 85 [6] (f1 fun x => W 6 (Fp.fe (-num x))) := .un (fun _ _ => .fe _) (fun x h w _ => Fp2.rNeg h w)
theorem rMul : Con Tryd.prog GlobD 84 [6, 6] (f2 fun x y => W 6 (Fp.fe (num x * num y))) := .bi (fun _ _ _ _ => .fe _) (fun x h y k w _ => Fp2.rMul h k w)
def L0 : List (Fact Tryd.prog GlobD) := pReduce.fact (.con Tryd.func39 rfl (by decide) pReduce) ::
  pAdd.fact (.con Tryd.func59 rfl (by decide) pAdd) ::
  pSub.fact (.con Tryd.func53 rfl (by decide) pSub) ::
  pNeg.fact (.con Tryd.func40 rfl (by decide) pNeg) ::
  pMul.fact (.con Tryd.func55 rfl (by decide) pMul) ::
  rReduce.fact (.con Tryd.func72 rfl (by decide) rReduce) ::
  rAdd.fact (.con Tryd.func82 rfl (by decide) rAdd) ::
  rSub.fact (.con Tryd.func83 rfl (by decide) rSub) ::
  rNeg.fact (.con Tryd.func85 rfl (by decide) rNeg) ::
  rMul.fact (.con Tryd.func84 rfl (by decide) rMul) ::
  []
def X0 : Cx := .of [] (tb L0)
theorem X0_ok : CxOk Tryd.prog X0 GlobD := cx_ok L0 trivial (by kernel_rfl)
def L1 : List (Fact Tryd.prog GlobD) := ⟨58, entI 58 X0 9, .inline X0_ok GlobD.keep Tryd.func58 rfl (by decide)⟩ ::
  ⟨56, entI 56 X0 9, .inline X0_ok GlobD.keep Tryd.func56 rfl (by decide)⟩ ::
  ⟨57, entI 57 X0 9, .inline X0_ok GlobD.keep Tryd.func57 rfl (by decide)⟩ ::
  L0
def X1 : Cx := .of [] (tb L1)
theorem X1_ok : CxOk Tryd.prog X1 GlobD := cx_ok L1 trivial (by kernel_rfl)
def L2 : List (Fact Tryd.prog GlobD) := ⟨54, entI 54 X1 9, .inline X1_ok GlobD.keep Tryd.func54 rfl (by decide)⟩ ::
  L1
def X2 : Cx := .of [(26, 12)] (tb L2)
theorem X2_ok : CxOk Tryd.prog X2 GlobD := cx_ok L2 ⟨⟨eqok2, gd2⟩, trivial⟩ (by kernel_rfl)
set_option maxRecDepth 100000 in
theorem lReduce : Con Tryd.prog GlobD 26 [12] (f1 fun a => W 12 (F2 (v2 a))) := .w1 X1_ok GlobD.keep Tryd.func26 9 (fun _ _ => .F2 _) (fun _ _ => rfl) (fun _ => by kernel_rfl)
set_option maxRecDepth 100000 in
theorem lAdd : Con Tryd.prog GlobD 60 [12, 12] (f2 fun a b => W 12 (F2 (ga (v2 a) (v2 b)))) := .w2 X1_ok GlobD.keep Tryd.func60 9 (fun _ _ _ _ => .F2 _) (fun _ _ _ _ => rfl) (fun _ _ => by kernel_rfl)
set_option maxRecDepth 100000 in
theorem lSub : Con Tryd.prog GlobD 43 [12, 12] (f2 fun a b => W 12 (F2 (gs (v2 a) (v2 b)))) := .w2 X1_ok GlobD.keep Tryd.func43 9 (fun _ _ _ _ => .F2 _) (fun _ _ _ _ => rfl) (fun _ _ => by kernel_rfl)
set_option maxRecDepth 100000 in
theorem lNeg : Con Tryd.prog GlobD 27 [12] (f1 fun a => W 12 (F2 (gn (v2 a)))) := .w1 X1_ok GlobD.keep Tryd.func27 9 (fun _ _ => .F2 _) (fun _ _ => rfl) (fun _ => by kernel_rfl)
set_option maxRecDepth 100000 in
theorem lConj : Con Tryd.prog GlobD 22 [12] (f1 fun a => W 12 (F2 (gc (v2 a)))) := .w1 X1_ok GlobD.keep Tryd.func22 9 (fun _ _ => .F2 _) (fun _ _ => rfl) (fun _ => by kernel_rfl)
set_option maxRecDepth 100000 in
theorem lScale : Con Tryd.prog GlobD 48 [12, 6] (f2 fun a k => W 12 (F2 (gk (v2 a) (num k)))) := .w2 X1_ok GlobD.keep Tryd.func48 9 (fun _ _ _ _ => .F2 _) (fun _ _ _ _ => rfl) (fun _ _ => by kernel_rfl)
set_option maxRecDepth 100000 in
theorem lXi : Con Tryd.prog GlobD 45 [12] (f1 fun a => W 12 (F2 (gm (v2 a) (1, 1)))) := .w1 X1_ok GlobD.keep Tryd.func45 9 (fun _ _ => .F2 _) (fun _ _ => xi_v _) (fun _ => by kernel_rfl)
set_option maxRecDepth 100000 in
theorem lSquare : Con Tryd.prog GlobD 46 [12] (f1 fun a => W 12 (F2 (gm (v2 a) (v2 a)))) := .w1 X1_ok GlobD.keep Tryd.func46 9 (fun _ _ => .F2 _) (fun _ _ => square_v _) (fun _ => by kernel_rfl)
def L3 : List (Fact Tryd.prog GlobD) := lSquare.fact (.con Tryd.func46 rfl (by decide) lSquare) ::
  L2
def X3 : Cx := .of [(26, 12)] (tb L3)
theorem X3_ok : CxOk Tryd.prog X3 GlobD := cx_ok L3 ⟨⟨eqok2, gd2⟩, trivial⟩ (by kernel_rfl)
set_option maxRecDepth 100000 in
theorem lMul : Con Tryd.prog GlobD 41 [12, 12] (f2 fun a b => W 12 (F2 (gm (v2 a) (v2 b)))) := by
  intro l hl
  match l, hl with
  | [a, b], hl =>
    by_cases h : a = b
    · subst h
      exact .of X3_ok GlobD.keep Tryd.func41 9 [true] (obs := [qb true (a = a)]) hl (w_ok (.F2 _)) rfl (rfl : W 12 (F2 (gm (v2 a) (v2 a))) = _) (ht rfl trivial) (by kernel_rfl)
    · exact .of X3_ok GlobD.keep Tryd.func41 9 [false] (obs := [qb false (a = b)]) hl (w_ok (.F2 _)) rfl (congrArg (W 12) (mul_v a b)) (hf h trivial) (by kernel_rfl)
def L4 : List (Fact Tryd.prog GlobD) := lReduce.fact (.con Tryd.func26 rfl (by decide) lReduce) ::
  lAdd.fact (.con Tryd.func60 rfl (by decide) lAdd) ::
  lSub.fact (.con Tryd.func43 rfl (by decide) lSub) ::
  lNeg.fact (.con Tryd.func27 rfl (by decide) lNeg) ::
  lConj.fact (.con Tryd.func22 rfl (by decide) lConj) ::
  lScale.fact (.con Tryd.func48 rfl (by decide) lScale) ::
  lXi.fact (.con Tryd.func45 rfl (by decide) lXi) ::
  lMul.fact (.con Tryd.func41 rfl (by decide) lMul) ::
  L3
def X4 : Cx := .of [] (tb L4)
theorem X4_ok : CxOk Tryd.prog X4 GlobD := cx_ok L4 trivial (by kernel_rfl)
set_option maxRecDepth 100000 in
theorem qReduce : Con Tryd.prog GlobD 61 [12] (f1 fun a => W 12 (F2 (v2 a))) := .w1 X4_ok GlobD.keep Tryd.func61 9 (fun _ _ => .F2 _) (fun _ _ => rfl) (fun _ => by kernel_rfl)
set_option maxRecDepth 100000 in
theorem qAdd : Con Tryd.prog GlobD 73 [12, 12] (f2 fun a b => W 12 (F2 (ga (v2 a) (v2 b)))) := .w2 X4_ok GlobD.keep Tryd.func73 9 (fun _ _ _ _ => .F2 _) (fun _ _ _ _ => rfl) (fun _ _ => by kernel_rfl)
theorem qmul_v (a b : List Int) : Fp.fe (num (Fp.fe (num (seg 0 6 a) * num (seg 0 6 b))) - num (Fp.fe (num (seg 6 6 a) * num (seg 6 6 b)))) ++ Fp.fe (num (Fp.fe (num (seg 0 6 a) * num (seg 6 6 b))) + num (Fp.fe (num (seg 6 6 a) * num (seg 0 6 b)))) = F2 (gm (v2 a) (v2 b)) := by
  simp only [fe_subl, fe_subr, fe_addl, fe_addr]
  rfl
set_option maxRecDepth 100000 in
theorem qMul : Con Tryd.prog GlobD 74 [12, 12] (f2 fun a b => W 12 (F2 (gm (v2 a) (v2 b)))) := .w2 X4_ok GlobD.keep Tryd.func74 9 (fun _ _ _ _ => .F2 _) (fun _ _ _ _ => qmul_v _ _) (fun _ _ => by kernel_rfl)
def L5 : List (Fact Tryd.prog GlobD) := qReduce.fact (.con Tryd.func61 rfl (by decide) qReduce) ::
  qAdd.fact (.con Tryd.func73 rfl (by decide) qAdd) ::
  qMul.fact (.con Tryd.func74 rfl (by decide) qMul) ::
  L4
def X5 : Cx := .of [] (tb L5)
theorem X5_ok : CxOk Tryd.prog X5 GlobD := cx_ok L5 trivial (by kernel_rfl)
theorem qxi_v (a : List Int) : F2 (gm (v2 a) (v2 ([1, 0, 0, 0, 0, 0] ++ [1, 0, 0, 0, 0, 0]))) = F2 (gm (v2 a) (1, 1)) := by rw [show v2 ([1, 0, 0, 0, 0, 0] ++ [1, 0, 0, 0, 0, 0]) = (1, 1) by decide +kernel]
set_option maxRecDepth 100000 in
theorem qXi : Con Tryd.prog GlobD 75 [12] (f1 fun a => W 12 (F2 (gm (v2 a) (1, 1)))) := .w1 X5_ok GlobD.keep Tryd.func75 9 (fun _ _ => .F2 _) (fun _ _ => qxi_v _) (fun _ => by kernel_rfl)
end Go.Proofs.YtpnpiiocpjbffaaDoor.S7
