/-
  Own text. Layer 7 by the reckoner: the landed package, the document's answer.
-/
import Derived.Test.YtajiinecicghkaaDoorMSx
import Derived.Test.YtajiinecicghkaaDoorFp2AlgI
import Derived.Test.YtajiinecicghkaaDoorFp2Eq
namespace Go.Proofs.YtajiinecicghkaaDoor.S7
set_option linter.unusedVariables false
set_option linter.unusedSimpArgs false
open Go Go.RowKit Go.Proofs.YtajiinecicghkaaDoor.Reg Go.Proofs.YtajiinecicghkaaDoor.Base Go.Proofs.YtajiinecicghkaaDoor.Limb Go.Proofs.YtajiinecicghkaaDoor.Sx Go.Proofs.YtajiinecicghkaaDoor.Fp Go.Proofs.YtajiinecicghkaaDoor.Fp2

theorem pReduce : Con Tryd.prog GlobD 61 [6] (f1 fun x => W 6 (Fp.fe (num x))) := .un (fun _ _ => .fe _) (fun x h w g => Fp2.pRed h w g.toGlob)
theorem pAdd : Con Tryd.prog GlobD 72 [6, 6] (f2 fun x y => W 6 (Fp.fe (num x + num y))) := .bi (fun _ _ _ _ => .fe _) (fun x h y k w g => Fp2.pAdd h k w g.toGlob)
theorem pSub : Con Tryd.prog GlobD 71 [6, 6] (f2 fun x y => W 6 (Fp.fe (num x - num y))) := .bi (fun _ _ _ _ => .fe _) (fun x h y k w g => Fp2.pSub h k w g.toGlob)
theorem pNeg : Con Tryd.prog GlobD 62 [6] (f1 fun x => W 6 (Fp.fe (-num x))) := .un (fun _ _ => .fe _) (fun x h w g => Fp2.pNeg h w g.toGlob)
theorem pMul : Con Tryd.prog GlobD 67 [6, 6] (f2 fun x y => W 6 (Fp.fe (num x * num y))) := .bi (fun _ _ _ _ => .fe _) (fun x h y k w g => Fp2.pMul h k w g.toGlob)
theorem pInv : Con Tryd.prog GlobD 85 [6] (f1 fun x => W 6 (Fp.fe (pw (num x) (PP - 2)))) := .un (fun _ _ => .fe _) (fun x h w g => Fp2.pInv h w g)
theorem rReduce : Con Tryd.prog GlobD 63 [6] (f1 fun x => W 6 (Fp.fe (num x))) := .un (fun _ _ => .fe _) (fun x h w _ => Fp2.rRed h w)
theorem rAdd : Con Tryd.prog GlobD 60 [6, 6] (f2 fun x y => W 6 (Fp.fe (num x + num y))) := .bi (fun _ _ _ _ => .fe _) (fun x h y k w _ => Fp2.rAdd h k w)
theorem rSub : Con Tryd.prog GlobD 58 [6, 6] (f2 fun x y => W 6 (Fp.fe (num x - num y))) := .bi (fun _ _ _ _ => .fe _) (fun x h y k w _ => Fp2.rSub h k w)
theorem rNeg : Con Tryd.prog GlobD 64 [6] (f1 fun x => W 6 (Fp.fe (-num x))) := .un (fun _ _ => .fe _) (fun x h w _ => Fp2.rNeg h w)
theorem rMul : Con Tryd.prog GlobD 59 [6, 6] (f2 fun x y => W 6 (Fp.fe (num x * num y))) := .bi (fun _ _ _ _ => .fe _) (fun x h y k w _ => Fp2.rMul h k w)
theorem rInv : Con Tryd.prog GlobD 78 [6] (f1 fun x => W 6 (Fp.fe (pw (num x) (PP - 2)))) := .un (fun _ _ => .fe _) (fun x h w _ => Fp2.rInv h w)
def L0 : List (Fact Tryd.prog GlobD) := pReduce.fact (.con Tryd.func61 rfl (by decide) pReduce) ::
  pAdd.fact (.con Tryd.func72 rfl (by decide) pAdd) ::
  pSub.fact (.con Tryd.func71 rfl (by decide) pSub) ::
  pNeg.fact (.con Tryd.func62 rfl (by decide) pNeg) ::
  pMul.fact (.con Tryd.func67 rfl (by decide) pMul) ::
  pInv.fact (.con Tryd.func85 rfl (by decide) pInv) ::
  rReduce.fact (.con Tryd.func63 rfl (by decide) rReduce) ::
  rAdd.fact (.con Tryd.func60 rfl (by decide) rAdd) ::
  rSub.fact (.con Tryd.func58 rfl (by decide) rSub) ::
  rNeg.fact (.con Tryd.func64 rfl (by decide) rNeg) ::
  rMul.fact (.con Tryd.func59 rfl (by decide) rMul) ::
  rInv.fact (.con Tryd.func78 rfl (by decide) rInv) ::
  []
def X0 : Cx := .of [] (tb L0)
theorem X0_ok : CxOk Tryd.prog X0 GlobD := cx_ok L0 trivial (by kernel_rfl)
def L1 : List (Fact Tryd.prog GlobD) := ⟨70, entI 70 X0 9, .inline X0_ok GlobD.keep Tryd.func70 rfl (by decide)⟩ ::
  ⟨68, entI 68 X0 9, .inline X0_ok GlobD.keep Tryd.func68 rfl (by decide)⟩ ::
  ⟨69, entI 69 X0 9, .inline X0_ok GlobD.keep Tryd.func69 rfl (by decide)⟩ ::
  L0
def X1 : Cx := .of [] (tb L1)
theorem X1_ok : CxOk Tryd.prog X1 GlobD := cx_ok L1 trivial (by kernel_rfl)
def L2 : List (Fact Tryd.prog GlobD) := ⟨66, entI 66 X1 9, .inline X1_ok GlobD.keep Tryd.func66 rfl (by decide)⟩ ::
  L1
def X2 : Cx := .of [(27, 12)] (tb L2)
theorem X2_ok : CxOk Tryd.prog X2 GlobD := cx_ok L2 ⟨⟨eqok2, gd2⟩, trivial⟩ (by kernel_rfl)
set_option maxRecDepth 100000 in
theorem lReduce : Con Tryd.prog GlobD 37 [12] (f1 fun a => W 12 (F2 (v2 a))) := .w1 X1_ok GlobD.keep Tryd.func37 9 (fun _ _ => .F2 _) (fun _ _ => rfl) (fun _ => by kernel_rfl)
set_option maxRecDepth 100000 in
theorem lAdd : Con Tryd.prog GlobD 42 [12, 12] (f2 fun a b => W 12 (F2 (ga (v2 a) (v2 b)))) := .w2 X1_ok GlobD.keep Tryd.func42 9 (fun _ _ _ _ => .F2 _) (fun _ _ _ _ => rfl) (fun _ _ => by kernel_rfl)
set_option maxRecDepth 100000 in
theorem lSub : Con Tryd.prog GlobD 54 [12, 12] (f2 fun a b => W 12 (F2 (gs (v2 a) (v2 b)))) := .w2 X1_ok GlobD.keep Tryd.func54 9 (fun _ _ _ _ => .F2 _) (fun _ _ _ _ => rfl) (fun _ _ => by kernel_rfl)
set_option maxRecDepth 100000 in
theorem lNeg : Con Tryd.prog GlobD 38 [12] (f1 fun a => W 12 (F2 (gn (v2 a)))) := .w1 X1_ok GlobD.keep Tryd.func38 9 (fun _ _ => .F2 _) (fun _ _ => rfl) (fun _ => by kernel_rfl)
set_option maxRecDepth 100000 in
theorem lConj : Con Tryd.prog GlobD 84 [12] (f1 fun a => W 12 (F2 (gc (v2 a)))) := .w1 X1_ok GlobD.keep Tryd.func84 9 (fun _ _ => .F2 _) (fun _ _ => rfl) (fun _ => by kernel_rfl)
set_option maxRecDepth 100000 in
theorem lScale : Con Tryd.prog GlobD 83 [12, 6] (f2 fun a k => W 12 (F2 (gk (v2 a) (num k)))) := .w2 X1_ok GlobD.keep Tryd.func83 9 (fun _ _ _ _ => .F2 _) (fun _ _ _ _ => rfl) (fun _ _ => by kernel_rfl)
set_option maxRecDepth 100000 in
theorem lSquare : Con Tryd.prog GlobD 65 [12] (f1 fun a => W 12 (F2 (gm (v2 a) (v2 a)))) := .w1 X1_ok GlobD.keep Tryd.func65 9 (fun _ _ => .F2 _) (fun _ _ => square_v _) (fun _ => by kernel_rfl)
def L3 : List (Fact Tryd.prog GlobD) := lSquare.fact (.con Tryd.func65 rfl (by decide) lSquare) ::
  L2
def X3 : Cx := .of [(27, 12)] (tb L3)
theorem X3_ok : CxOk Tryd.prog X3 GlobD := cx_ok L3 ⟨⟨eqok2, gd2⟩, trivial⟩ (by kernel_rfl)
set_option maxRecDepth 100000 in
theorem lMul : Con Tryd.prog GlobD 41 [12, 12] (f2 fun a b => W 12 (F2 (gm (v2 a) (v2 b)))) := by
  intro l hl
  match l, hl with
  | [a, b], hl =>
    by_cases h : a = b
    · subst h
      exact .of X3_ok GlobD.keep Tryd.func41 9 [true] (obs := [qb true (a = a)]) hl (w_ok (.F2 _)) rfl (rfl : W 12 (F2 (gm (v2 a) (v2 a))) = _) (ht rfl trivial) (by kernel_rfl)
    · exact .of X3_ok GlobD.keep Tryd.func41 9 [false] (obs := [qb false (a = b)]) hl (w_ok (.F2 _)) rfl (congrArg (W 12) (mul_v a b)) (hf h trivial) (by kernel_rfl)
def L4 : List (Fact Tryd.prog GlobD) := lReduce.fact (.con Tryd.func37 rfl (by decide) lReduce) ::
  lAdd.fact (.con Tryd.func42 rfl (by decide) lAdd) ::
  lSub.fact (.con Tryd.func54 rfl (by decide) lSub) ::
  lNeg.fact (.con Tryd.func38 rfl (by decide) lNeg) ::
  lConj.fact (.con Tryd.func84 rfl (by decide) lConj) ::
  lScale.fact (.con Tryd.func83 rfl (by decide) lScale) ::
  lMul.fact (.con Tryd.func41 rfl (by decide) lMul) ::
  L3
def X4 : Cx := .of [] (tb L4)
theorem X4_ok : CxOk Tryd.prog X4 GlobD := cx_ok L4 trivial (by kernel_rfl)
set_option maxRecDepth 100000 in
theorem lInv : Con Tryd.prog GlobD 56 [12] (f1 fun a => W 12 (F2 (gi (v2 a)))) := .w1 X4_ok GlobD.keep Tryd.func56 9 (fun _ _ => .F2 _) (fun _ _ => F2_eq (inv_v _)) (fun _ => by kernel_rfl)
set_option maxRecDepth 100000 in
theorem qReduce : Con Tryd.prog GlobD 39 [12] (f1 fun a => W 12 (F2 (v2 a))) := .w1 X4_ok GlobD.keep Tryd.func39 9 (fun _ _ => .F2 _) (fun _ _ => rfl) (fun _ => by kernel_rfl)
set_option maxRecDepth 100000 in
theorem qAdd : Con Tryd.prog GlobD 43 [12, 12] (f2 fun a b => W 12 (F2 (ga (v2 a) (v2 b)))) := .w2 X4_ok GlobD.keep Tryd.func43 9 (fun _ _ _ _ => .F2 _) (fun _ _ _ _ => rfl) (fun _ _ => by kernel_rfl)
set_option maxRecDepth 100000 in
theorem qNeg : Con Tryd.prog GlobD 40 [12] (f1 fun a => W 12 (F2 (gn (v2 a)))) := .w1 X4_ok GlobD.keep Tryd.func40 9 (fun _ _ => .F2 _) (fun _ _ => rfl) (fun _ => by kernel_rfl)
set_option maxRecDepth 100000 in
theorem qConj : Con Tryd.prog GlobD 76 [12] (f1 fun a => W 12 (F2 (gc (v2 a)))) := .w1 X4_ok GlobD.keep Tryd.func76 9 (fun _ _ => .F2 _) (fun _ _ => rfl) (fun _ => by kernel_rfl)
set_option maxRecDepth 100000 in
theorem qScale : Con Tryd.prog GlobD 77 [12, 6] (f2 fun a k => W 12 (F2 (gk (v2 a) (num k)))) := .w2 X4_ok GlobD.keep Tryd.func77 9 (fun _ _ _ _ => .F2 _) (fun _ _ _ _ => rfl) (fun _ _ => by kernel_rfl)
theorem qmul_v (a b : List Int) : Fp.fe (num (Fp.fe (num (seg 0 6 a) * num (seg 0 6 b))) - num (Fp.fe (num (seg 6 6 a) * num (seg 6 6 b)))) ++ Fp.fe (num (Fp.fe (num (seg 0 6 a) * num (seg 6 6 b))) + num (Fp.fe (num (seg 6 6 a) * num (seg 0 6 b)))) = F2 (gm (v2 a) (v2 b)) := by
  simp only [fe_subl, fe_subr, fe_addl, fe_addr]
  rfl
set_option maxRecDepth 100000 in
theorem qMul : Con Tryd.prog GlobD 36 [12, 12] (f2 fun a b => W 12 (F2 (gm (v2 a) (v2 b)))) := .w2 X4_ok GlobD.keep Tryd.func36 9 (fun _ _ _ _ => .F2 _) (fun _ _ _ _ => qmul_v _ _) (fun _ _ => by kernel_rfl)
def L5 : List (Fact Tryd.prog GlobD) := qReduce.fact (.con Tryd.func39 rfl (by decide) qReduce) ::
  qAdd.fact (.con Tryd.func43 rfl (by decide) qAdd) ::
  qNeg.fact (.con Tryd.func40 rfl (by decide) qNeg) ::
  qConj.fact (.con Tryd.func76 rfl (by decide) qConj) ::
  qScale.fact (.con Tryd.func77 rfl (by decide) qScale) ::
  qMul.fact (.con Tryd.func36 rfl (by decide) qMul) ::
  L4
def X5 : Cx := .of [] (tb L5)
theorem X5_ok : CxOk Tryd.prog X5 GlobD := cx_ok L5 trivial (by kernel_rfl)
set_option maxRecDepth 100000 in
theorem qSub : Con Tryd.prog GlobD 35 [12, 12] (f2 fun a b => W 12 (F2 (gs (v2 a) (v2 b)))) := .w2 X5_ok GlobD.keep Tryd.func35 9 (fun _ _ _ _ => .F2 _) (fun _ _ _ _ => F2_eq (by rw [gs_eq]; exact ga_congr E2.rfl (v2_F2 _))) (fun _ _ => by kernel_rfl)
theorem qinv_v (a : List Int) : F2 (gk (v2 (F2 (gc (v2 a)))) (num (Fp.fe (pw (num (seg 0 6 (F2 (gm (v2 a) (v2 (F2 (gc (v2 a)))))))) (PP - 2))))) = F2 (gi (v2 a)) := by
  rw [F2_eq (gm_congr E2.rfl (v2_F2 (gc (v2 a)))), seg_F2a]
  refine F2_eq ((gk_congr (v2_F2 _) ?_))
  rw [nfe]
  refine pw_congr ?_ _
  rw [nfe]
  congr 1
  simp only [gm, gc, gnorm]
  grind
set_option maxRecDepth 100000 in
theorem qInv : Con Tryd.prog GlobD 50 [12] (f1 fun a => W 12 (F2 (gi (v2 a)))) := .w1 X5_ok GlobD.keep Tryd.func50 9 (fun _ _ => .F2 _) (fun _ _ => qinv_v _) (fun _ => by kernel_rfl)
end Go.Proofs.YtajiinecicghkaaDoor.S7
