/-
  Own text. Layer 7 by the reckoner: the landed package, the document's answer.
-/
import Derived.Test.YtpgphhinelljoaaDoorMSx
import Derived.Test.YtpgphhinelljoaaDoorFp2AlgI
import Derived.Test.YtpgphhinelljoaaDoorFp2Eq
namespace Go.Proofs.YtpgphhinelljoaaDoor.S7
set_option linter.unusedVariables false
set_option linter.unusedSimpArgs false
open Go Go.RowKit Go.Proofs.YtpgphhinelljoaaDoor.Reg Go.Proofs.YtpgphhinelljoaaDoor.Base Go.Proofs.YtpgphhinelljoaaDoor.Limb Go.Proofs.YtpgphhinelljoaaDoor.Sx Go.Proofs.YtpgphhinelljoaaDoor.Fp Go.Proofs.YtpgphhinelljoaaDoor.Fp2

theorem pReduce : Con Tryd.prog GlobD 46 [6] (f1 fun x => W 6 (Fp.fe (num x))) := .un (fun _ _ => .fe _) (fun x h w g => Fp2.pRed h w g.toGlob)
theorem pAdd : Con Tryd.prog GlobD 32 [6, 6] (f2 fun x y => W 6 (Fp.fe (num x + num y))) := .bi (fun _ _ _ _ => .fe _) (fun x h y k w g => Fp2.pAdd h k w g.toGlob)
theorem pSub : Con Tryd.prog GlobD 72 [6, 6] (f2 fun x y => W 6 (Fp.fe (num x - num y))) := .bi (fun _ _ _ _ => .fe _) (fun x h y k w g => Fp2.pSub h k w g.toGlob)
theorem pNeg : Con Tryd.prog GlobD 47 [6] (f1 fun x => W 6 (Fp.fe (-num x))) := .un (fun _ _ => .fe _) (fun x h w g => Fp2.pNeg h w g.toGlob)
theorem pMul : Con Tryd.prog GlobD 31 [6, 6] (f2 fun x y => W 6 (Fp.fe (num x * num y))) := .bi (fun _ _ _ _ => .fe _) (fun x h y k w g => Fp2.pMul h k w g.toGlob)
theorem pInv : Con Tryd.prog GlobD 76 [6] (f1 fun x => W 6 (Fp.fe (pw (num x) (PP - 2)))) := .un (fun _ _ => .fe _) (fun x h w g => Fp2.pInv h w g)
def L0 : List (Fact Tryd.prog GlobD) := pReduce.fact (.con Tryd.func46 rfl (by decide) pReduce) ::
  pAdd.fact (.con Tryd.func32 rfl (by decide) pAdd) ::
  pSub.fact (.con Tryd.func72 rfl (by decide) pSub) ::
  pNeg.fact (.con Tryd.func47 rfl (by decide) pNeg) ::
  pMul.fact (.con Tryd.func31 rfl (by decide) pMul) ::
  pInv.fact (.con Tryd.func76 rfl (by decide) pInv) ::
  []
def X0 : Cx := .of [] (tb L0)
theorem X0_ok : CxOk Tryd.prog X0 GlobD := cx_ok L0 trivial (by kernel_rfl)
def L1 : List (Fact Tryd.prog GlobD) := ⟨71, entI 71 X0 9, .inline X0_ok GlobD.keep Tryd.func71 rfl (by decide)⟩ ::
  ⟨69, entI 69 X0 9, .inline X0_ok GlobD.keep Tryd.func69 rfl (by decide)⟩ ::
  ⟨70, entI 70 X0 9, .inline X0_ok GlobD.keep Tryd.func70 rfl (by decide)⟩ ::
  L0
def X1 : Cx := .of [] (tb L1)
theorem X1_ok : CxOk Tryd.prog X1 GlobD := cx_ok L1 trivial (by kernel_rfl)
def L2 : List (Fact Tryd.prog GlobD) := ⟨68, entI 68 X1 9, .inline X1_ok GlobD.keep Tryd.func68 rfl (by decide)⟩ ::
  L1
def X2 : Cx := .of [(28, 12)] (tb L2)
theorem X2_ok : CxOk Tryd.prog X2 GlobD := cx_ok L2 ⟨⟨eqok2, gd2⟩, trivial⟩ (by kernel_rfl)
set_option maxRecDepth 100000 in
theorem lReduce : Con Tryd.prog GlobD 52 [12] (f1 fun a => W 12 (F2 (v2 a))) := .w1 X1_ok GlobD.keep Tryd.func52 9 (fun _ _ => .F2 _) (fun _ _ => rfl) (fun _ => by kernel_rfl)
set_option maxRecDepth 100000 in
theorem lAdd : Con Tryd.prog GlobD 36 [12, 12] (f2 fun a b => W 12 (F2 (ga (v2 a) (v2 b)))) := .w2 X1_ok GlobD.keep Tryd.func36 9 (fun _ _ _ _ => .F2 _) (fun _ _ _ _ => rfl) (fun _ _ => by kernel_rfl)
set_option maxRecDepth 100000 in
theorem lSub : Con Tryd.prog GlobD 83 [12, 12] (f2 fun a b => W 12 (F2 (gs (v2 a) (v2 b)))) := .w2 X1_ok GlobD.keep Tryd.func83 9 (fun _ _ _ _ => .F2 _) (fun _ _ _ _ => rfl) (fun _ _ => by kernel_rfl)
set_option maxRecDepth 100000 in
theorem lNeg : Con Tryd.prog GlobD 53 [12] (f1 fun a => W 12 (F2 (gn (v2 a)))) := .w1 X1_ok GlobD.keep Tryd.func53 9 (fun _ _ => .F2 _) (fun _ _ => rfl) (fun _ => by kernel_rfl)
set_option maxRecDepth 100000 in
theorem lConj : Con Tryd.prog GlobD 55 [12] (f1 fun a => W 12 (F2 (gc (v2 a)))) := .w1 X1_ok GlobD.keep Tryd.func55 9 (fun _ _ => .F2 _) (fun _ _ => rfl) (fun _ => by kernel_rfl)
set_option maxRecDepth 100000 in
theorem lScale : Con Tryd.prog GlobD 97 [12, 6] (f2 fun a k => W 12 (F2 (gk (v2 a) (num k)))) := .w2 X1_ok GlobD.keep Tryd.func97 9 (fun _ _ _ _ => .F2 _) (fun _ _ _ _ => rfl) (fun _ _ => by kernel_rfl)
set_option maxRecDepth 100000 in
theorem lSquare : Con Tryd.prog GlobD 67 [12] (f1 fun a => W 12 (F2 (gm (v2 a) (v2 a)))) := .w1 X1_ok GlobD.keep Tryd.func67 9 (fun _ _ => .F2 _) (fun _ _ => square_v _) (fun _ => by kernel_rfl)
def L3 : List (Fact Tryd.prog GlobD) := lSquare.fact (.con Tryd.func67 rfl (by decide) lSquare) ::
  L2
def X3 : Cx := .of [(28, 12)] (tb L3)
theorem X3_ok : CxOk Tryd.prog X3 GlobD := cx_ok L3 ⟨⟨eqok2, gd2⟩, trivial⟩ (by kernel_rfl)
set_option maxRecDepth 100000 in
theorem lMul : Con Tryd.prog GlobD 35 [12, 12] (f2 fun a b => W 12 (F2 (gm (v2 a) (v2 b)))) := by
  intro l hl
  match l, hl with
  | [a, b], hl =>
    by_cases h : a = b
    · subst h
      exact .of X3_ok GlobD.keep Tryd.func35 9 [true] (obs := [qb true (a = a)]) hl (w_ok (.F2 _)) rfl (rfl : W 12 (F2 (gm (v2 a) (v2 a))) = _) (ht rfl trivial) (by kernel_rfl)
    · exact .of X3_ok GlobD.keep Tryd.func35 9 [false] (obs := [qb false (a = b)]) hl (w_ok (.F2 _)) rfl (congrArg (W 12) (mul_v a b)) (hf h trivial) (by kernel_rfl)
def L4 : List (Fact Tryd.prog GlobD) := lReduce.fact (.con Tryd.func52 rfl (by decide) lReduce) ::
  lAdd.fact (.con Tryd.func36 rfl (by decide) lAdd) ::
  lSub.fact (.con Tryd.func83 rfl (by decide) lSub) ::
  lNeg.fact (.con Tryd.func53 rfl (by decide) lNeg) ::
  lConj.fact (.con Tryd.func55 rfl (by decide) lConj) ::
  lScale.fact (.con Tryd.func97 rfl (by decide) lScale) ::
  lMul.fact (.con Tryd.func35 rfl (by decide) lMul) ::
  L3
def X4 : Cx := .of [] (tb L4)
theorem X4_ok : CxOk Tryd.prog X4 GlobD := cx_ok L4 trivial (by kernel_rfl)
set_option maxRecDepth 100000 in
theorem lInv : Con Tryd.prog GlobD 80 [12] (f1 fun a => W 12 (F2 (gi (v2 a)))) := .w1 X4_ok GlobD.keep Tryd.func80 9 (fun _ _ => .F2 _) (fun _ _ => F2_eq (inv_v _)) (fun _ => by kernel_rfl)
def L5 : List (Fact Tryd.prog GlobD) := L4
def X5 : Cx := .of [] (tb L5)
theorem X5_ok : CxOk Tryd.prog X5 GlobD := cx_ok L5 trivial (by kernel_rfl)
end Go.Proofs.YtpgphhinelljoaaDoor.S7
