/-
  Own text. Layer 7 by the reckoner: the landed package, the document's answer.
-/
import Derived.Test.YtmohopjblhgdiaaDoorMSx
import Derived.Test.YtmohopjblhgdiaaDoorFp2AlgI
import Derived.Test.YtmohopjblhgdiaaDoorFp2Eq
namespace Go.Proofs.YtmohopjblhgdiaaDoor.S7
set_option linter.unusedVariables false
set_option linter.unusedSimpArgs false
open Go Go.RowKit Go.Proofs.YtmohopjblhgdiaaDoor.Reg Go.Proofs.YtmohopjblhgdiaaDoor.Base Go.Proofs.YtmohopjblhgdiaaDoor.Limb Go.Proofs.YtmohopjblhgdiaaDoor.Sx Go.Proofs.YtmohopjblhgdiaaDoor.Fp Go.Proofs.YtmohopjblhgdiaaDoor.Fp2

theorem pReduce : Con Tryd.prog GlobD 14 [6] (f1 fun x => W 6 (Fp.fe (num x))) := .un (fun _ _ => .fe _) (fun x h w g => Fp2.pRed h w g.toGlob)
theorem pAdd : Con Tryd.prog GlobD 26 [6, 6] (f2 fun x y => W 6 (Fp.fe (num x + num y))) := .bi (fun _ _ _ _ => .fe _) (fun x h y k w g => Fp2.pAdd h k w g.toGlob)
theorem pSub : Con Tryd.prog GlobD 43 [6, 6] (f2 fun x y => W 6 (Fp.fe (num x - num y))) := .bi (fun _ _ _ _ => .fe _) (fun x h y k w g => Fp2.pSub h k w g.toGlob)
theorem pNeg : Con Tryd.prog GlobD 29 [6] (f1 fun x => W 6 (Fp.fe (-num x))) := .un (fun _ _ => .fe _) (fun x h w g => Fp2.pNeg h w g.toGlob)
theorem pMul : Con Tryd.prog GlobD 30 [6, 6] (f2 fun x y => W 6 (Fp.fe (num x * num y))) := .bi (fun _ _ _ _ => .fe _) (fun x h y k w g => Fp2.pMul h k w g.toGlob)
theorem pInv : Con Tryd.prog GlobD 18 [6] (f1 fun x => W 6 (Fp.fe (pw (num x) (PP - 2)))) := .un (fun _ _ => .fe _) (fun x h w g => Fp2.pInv h w g)
def L0 : List (Fact Tryd.prog GlobD) := pReduce.fact (.con Tryd.func14 rfl (by decide) pReduce) ::
  pAdd.fact (.con Tryd.func26 rfl (by decide) pAdd) ::
  pSub.fact (.con Tryd.func43 rfl (by decide) pSub) ::
  pNeg.fact (.con Tryd.func29 rfl (by decide) pNeg) ::
  pMul.fact (.con Tryd.func30 rfl (by decide) pMul) ::
  pInv.fact (.con Tryd.func18 rfl (by decide) pInv) ::
  []
def X0 : Cx := .of [] (tb L0)
theorem X0_ok : CxOk Tryd.prog X0 GlobD := cx_ok L0 trivial (by kernel_rfl)
def L1 : List (Fact Tryd.prog GlobD) := ⟨48, entI 48 X0 9, .inline X0_ok GlobD.keep Tryd.func48 rfl (by decide)⟩ ::
  ⟨46, entI 46 X0 9, .inline X0_ok GlobD.keep Tryd.func46 rfl (by decide)⟩ ::
  ⟨47, entI 47 X0 9, .inline X0_ok GlobD.keep Tryd.func47 rfl (by decide)⟩ ::
  L0
def X1 : Cx := .of [] (tb L1)
theorem X1_ok : CxOk Tryd.prog X1 GlobD := cx_ok L1 trivial (by kernel_rfl)
def L2 : List (Fact Tryd.prog GlobD) := ⟨45, entI 45 X1 9, .inline X1_ok GlobD.keep Tryd.func45 rfl (by decide)⟩ ::
  L1
def X2 : Cx := .of [(26, 12)] (tb L2)
theorem X2_ok : CxOk Tryd.prog X2 GlobD := cx_ok L2 ⟨⟨eqok2, gd2⟩, trivial⟩ (by kernel_rfl)
set_option maxRecDepth 100000 in
theorem lReduce : Con Tryd.prog GlobD 59 [12] (f1 fun a => W 12 (F2 (v2 a))) := .w1 X1_ok GlobD.keep Tryd.func59 9 (fun _ _ => .F2 _) (fun _ _ => rfl) (fun _ => by kernel_rfl)
set_option maxRecDepth 100000 in
theorem lAdd : Con Tryd.prog GlobD 9 [12, 12] (f2 fun a b => W 12 (F2 (ga (v2 a) (v2 b)))) := .w2 X1_ok GlobD.keep Tryd.func9 9 (fun _ _ _ _ => .F2 _) (fun _ _ _ _ => rfl) (fun _ _ => by kernel_rfl)
set_option maxRecDepth 100000 in
theorem lSub : Con Tryd.prog GlobD 19 [12, 12] (f2 fun a b => W 12 (F2 (gs (v2 a) (v2 b)))) := .w2 X1_ok GlobD.keep Tryd.func19 9 (fun _ _ _ _ => .F2 _) (fun _ _ _ _ => rfl) (fun _ _ => by kernel_rfl)
set_option maxRecDepth 100000 in
theorem lNeg : Con Tryd.prog GlobD 12 [12] (f1 fun a => W 12 (F2 (gn (v2 a)))) := .w1 X1_ok GlobD.keep Tryd.func12 9 (fun _ _ => .F2 _) (fun _ _ => rfl) (fun _ => by kernel_rfl)
set_option maxRecDepth 100000 in
theorem lConj : Con Tryd.prog GlobD 60 [12] (f1 fun a => W 12 (F2 (gc (v2 a)))) := .w1 X1_ok GlobD.keep Tryd.func60 9 (fun _ _ => .F2 _) (fun _ _ => rfl) (fun _ => by kernel_rfl)
set_option maxRecDepth 100000 in
theorem lScale : Con Tryd.prog GlobD 13 [12, 6] (f2 fun a k => W 12 (F2 (gk (v2 a) (num k)))) := .w2 X1_ok GlobD.keep Tryd.func13 9 (fun _ _ _ _ => .F2 _) (fun _ _ _ _ => rfl) (fun _ _ => by kernel_rfl)
set_option maxRecDepth 100000 in
theorem lXi : Con Tryd.prog GlobD 81 [12] (f1 fun a => W 12 (F2 (gm (v2 a) (1, 1)))) := .w1 X1_ok GlobD.keep Tryd.func81 9 (fun _ _ => .F2 _) (fun _ _ => xi_v _) (fun _ => by kernel_rfl)
set_option maxRecDepth 100000 in
theorem lSquare : Con Tryd.prog GlobD 44 [12] (f1 fun a => W 12 (F2 (gm (v2 a) (v2 a)))) := .w1 X1_ok GlobD.keep Tryd.func44 9 (fun _ _ => .F2 _) (fun _ _ => square_v _) (fun _ => by kernel_rfl)
def L3 : List (Fact Tryd.prog GlobD) := lSquare.fact (.con Tryd.func44 rfl (by decide) lSquare) ::
  L2
def X3 : Cx := .of [(26, 12)] (tb L3)
theorem X3_ok : CxOk Tryd.prog X3 GlobD := cx_ok L3 ⟨⟨eqok2, gd2⟩, trivial⟩ (by kernel_rfl)
set_option maxRecDepth 100000 in
theorem lMul : Con Tryd.prog GlobD 20 [12, 12] (f2 fun a b => W 12 (F2 (gm (v2 a) (v2 b)))) := by
  intro l hl
  match l, hl with
  | [a, b], hl =>
    by_cases h : a = b
    · subst h
      exact .of X3_ok GlobD.keep Tryd.func20 9 [true] (obs := [qb true (a = a)]) hl (w_ok (.F2 _)) rfl (rfl : W 12 (F2 (gm (v2 a) (v2 a))) = _) (ht rfl trivial) (by kernel_rfl)
    · exact .of X3_ok GlobD.keep Tryd.func20 9 [false] (obs := [qb false (a = b)]) hl (w_ok (.F2 _)) rfl (congrArg (W 12) (mul_v a b)) (hf h trivial) (by kernel_rfl)
def L4 : List (Fact Tryd.prog GlobD) := lReduce.fact (.con Tryd.func59 rfl (by decide) lReduce) ::
  lAdd.fact (.con Tryd.func9 rfl (by decide) lAdd) ::
  lSub.fact (.con Tryd.func19 rfl (by decide) lSub) ::
  lNeg.fact (.con Tryd.func12 rfl (by decide) lNeg) ::
  lConj.fact (.con Tryd.func60 rfl (by decide) lConj) ::
  lScale.fact (.con Tryd.func13 rfl (by decide) lScale) ::
  lXi.fact (.con Tryd.func81 rfl (by decide) lXi) ::
  lMul.fact (.con Tryd.func20 rfl (by decide) lMul) ::
  L3
def X4 : Cx := .of [] (tb L4)
theorem X4_ok : CxOk Tryd.prog X4 GlobD := cx_ok L4 trivial (by kernel_rfl)
set_option maxRecDepth 100000 in
theorem lInv : Con Tryd.prog GlobD 36 [12] (f1 fun a => W 12 (F2 (gi (v2 a)))) := .w1 X4_ok GlobD.keep Tryd.func36 9 (fun _ _ => .F2 _) (fun _ _ => F2_eq (inv_v _)) (fun _ => by kernel_rfl)
def L5 : List (Fact Tryd.prog GlobD) := L4
def X5 : Cx := .of [] (tb L5)
theorem X5_ok : CxOk Tryd.prog X5 GlobD := cx_ok L5 trivial (by kernel_rfl)
end Go.Proofs.YtmohopjblhgdiaaDoor.S7
