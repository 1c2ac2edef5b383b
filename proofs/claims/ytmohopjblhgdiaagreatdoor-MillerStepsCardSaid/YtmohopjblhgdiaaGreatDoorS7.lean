/-
  Own text. Layer 7 by the reckoner: the landed package, the document's answer.
-/
import Derived.Test.YtmohopjblhgdiaaGreatDoorMSx
import Derived.Test.YtmohopjblhgdiaaGreatDoorFp2AlgI
import Derived.Test.YtmohopjblhgdiaaGreatDoorFp2Eq
namespace Go.Proofs.YtmohopjblhgdiaaGreatDoor.S7
set_option linter.unusedVariables false
set_option linter.unusedSimpArgs false
open Go Go.RowKit Go.Proofs.YtmohopjblhgdiaaGreatDoor.Reg Go.Proofs.YtmohopjblhgdiaaGreatDoor.Base Go.Proofs.YtmohopjblhgdiaaGreatDoor.Limb Go.Proofs.YtmohopjblhgdiaaGreatDoor.Sx Go.Proofs.YtmohopjblhgdiaaGreatDoor.Fp Go.Proofs.YtmohopjblhgdiaaGreatDoor.Fp2

theorem pReduce : Con Tryz.prog GlobD 29 [6] (f1 fun x => W 6 (Fp.fe (num x))) := .un (fun _ _ => .fe _) (fun x h w g => Fp2.pRed h w g.toGlob)
theorem pAdd : Con Tryz.prog GlobD 60 [6, 6] (f2 fun x y => W 6 (Fp.fe (num x + num y))) := .bi (fun _ _ _ _ => .fe _) (fun x h y k w g => Fp2.pAdd h k w g.toGlob)
theorem pSub : Con Tryz.prog GlobD 59 [6, 6] (f2 fun x y => W 6 (Fp.fe (num x - num y))) := .bi (fun _ _ _ _ => .fe _) (fun x h y k w g => Fp2.pSub h k w g.toGlob)
theorem pNeg : Con Tryz.prog GlobD 52 [6] (f1 fun x => W 6 (Fp.fe (-num x))) := .un (fun _ _ => .fe _) (fun x h w g => Fp2.pNeg h w g.toGlob)
theorem pMul : Con Tryz.prog GlobD 55 [6, 6] (f2 fun x y => W 6 (Fp.fe (num x * num y))) := .bi (fun _ _ _ _ => .fe _) (fun x h y k w g => Fp2.pMul h k w g.toGlob)
theorem pInv : Con Tryz.prog GlobD 62 [6] (f1 fun x => W 6 (Fp.fe (pw (num x) (PP - 2)))) := .un (fun _ _ => .fe _) (fun x h w g => Fp2.pInv h w g)
theorem rReduce : Con Tryz.prog GlobD 34 [6] (f1 fun x => W 6 (Fp.fe (num x))) := .un (fun _ _ => .fe _) (fun x h w _ => Fp2.rRed h w)
theorem rAdd : Con Tryz.prog GlobD 71 [6, 6] (f2 fun x y => W 6 (Fp.fe (num x + num y))) := .bi (fun _ _ _ _ => .fe _) (fun x h y k w _ => Fp2.rAdd h k w)
theorem rSub : Con Tryz.prog GlobD 69 [6, 6] (f2 fun x y => W 6 (Fp.fe (num x - num y))) := .bi (fun _ _ _ _ => .fe _) (fun x h y k w _ => Fp2.rSub h k w)
theorem rNeg : Con Tryz.prog GlobD 25 [6] (f1 fun x => W 6 (Fp.fe (-num x))) := .un (fun _ _ => .fe _) (fun x h w _ => Fp2.rNeg h w)
theorem rMul : Con Tryz.prog GlobD 70 [6, 6] (f2 fun x y => W 6 (Fp.fe (num x * num y))) := .bi (fun _ _ _ _ => .fe _) (fun x h y k w _ => Fp2.rMul h k w)
theorem rInv : Con Tryz.prog GlobD 97 [6] (f1 fun x => W 6 (Fp.fe (pw (num x) (PP - 2)))) := .un (fun _ _ => .fe _) (fun x h w _ => Fp2.rInv h w)
def L0 : List (Fact Tryz.prog GlobD) := pReduce.fact (.con Tryz.func29 rfl (by decide) pReduce) ::
  pAdd.fact (.con Tryz.func60 rfl (by decide) pAdd) ::
  pSub.fact (.con Tryz.func59 rfl (by decide) pSub) ::
  pNeg.fact (.con Tryz.func52 rfl (by decide) pNeg) ::
  pMul.fact (.con Tryz.func55 rfl (by decide) pMul) ::
  pInv.fact (.con Tryz.func62 rfl (by decide) pInv) ::
  rReduce.fact (.con Tryz.func34 rfl (by decide) rReduce) ::
  rAdd.fact (.con Tryz.func71 rfl (by decide) rAdd) ::
  rSub.fact (.con Tryz.func69 rfl (by decide) rSub) ::
  rNeg.fact (.con Tryz.func25 rfl (by decide) rNeg) ::
  rMul.fact (.con Tryz.func70 rfl (by decide) rMul) ::
  rInv.fact (.con Tryz.func97 rfl (by decide) rInv) ::
  []
def X0 : Cx := .of [] (tb L0)
theorem X0_ok : CxOk Tryz.prog X0 GlobD := cx_ok L0 trivial (by kernel_rfl)
def L1 : List (Fact Tryz.prog GlobD) := ⟨58, entI 58 X0 9, .inline X0_ok GlobD.keep Tryz.func58 rfl (by decide)⟩ ::
  ⟨56, entI 56 X0 9, .inline X0_ok GlobD.keep Tryz.func56 rfl (by decide)⟩ ::
  ⟨57, entI 57 X0 9, .inline X0_ok GlobD.keep Tryz.func57 rfl (by decide)⟩ ::
  L0
def X1 : Cx := .of [] (tb L1)
theorem X1_ok : CxOk Tryz.prog X1 GlobD := cx_ok L1 trivial (by kernel_rfl)
def L2 : List (Fact Tryz.prog GlobD) := ⟨54, entI 54 X1 9, .inline X1_ok GlobD.keep Tryz.func54 rfl (by decide)⟩ ::
  L1
def X2 : Cx := .of [(26, 12)] (tb L2)
theorem X2_ok : CxOk Tryz.prog X2 GlobD := cx_ok L2 ⟨⟨eqok2, gd2⟩, trivial⟩ (by kernel_rfl)
set_option maxRecDepth 100000 in
theorem lReduce : Con Tryz.prog GlobD 51 [12] (f1 fun a => W 12 (F2 (v2 a))) := .w1 X1_ok GlobD.keep Tryz.func51 9 (fun _ _ => .F2 _) (fun _ _ => rfl) (fun _ => by kernel_rfl)
set_option maxRecDepth 100000 in
theorem lAdd : Con Tryz.prog GlobD 50 [12, 12] (f2 fun a b => W 12 (F2 (ga (v2 a) (v2 b)))) := .w2 X1_ok GlobD.keep Tryz.func50 9 (fun _ _ _ _ => .F2 _) (fun _ _ _ _ => rfl) (fun _ _ => by kernel_rfl)
set_option maxRecDepth 100000 in
theorem lSub : Con Tryz.prog GlobD 26 [12, 12] (f2 fun a b => W 12 (F2 (gs (v2 a) (v2 b)))) := .w2 X1_ok GlobD.keep Tryz.func26 9 (fun _ _ _ _ => .F2 _) (fun _ _ _ _ => rfl) (fun _ _ => by kernel_rfl)
set_option maxRecDepth 100000 in
theorem lNeg : Con Tryz.prog GlobD 27 [12] (f1 fun a => W 12 (F2 (gn (v2 a)))) := .w1 X1_ok GlobD.keep Tryz.func27 9 (fun _ _ => .F2 _) (fun _ _ => rfl) (fun _ => by kernel_rfl)
set_option maxRecDepth 100000 in
theorem lConj : Con Tryz.prog GlobD 61 [12] (f1 fun a => W 12 (F2 (gc (v2 a)))) := .w1 X1_ok GlobD.keep Tryz.func61 9 (fun _ _ => .F2 _) (fun _ _ => rfl) (fun _ => by kernel_rfl)
set_option maxRecDepth 100000 in
theorem lScale : Con Tryz.prog GlobD 28 [12, 6] (f2 fun a k => W 12 (F2 (gk (v2 a) (num k)))) := .w2 X1_ok GlobD.keep Tryz.func28 9 (fun _ _ _ _ => .F2 _) (fun _ _ _ _ => rfl) (fun _ _ => by kernel_rfl)
set_option maxRecDepth 100000 in
theorem lXi : Con Tryz.prog GlobD 105 [12] (f1 fun a => W 12 (F2 (gm (v2 a) (1, 1)))) := .w1 X1_ok GlobD.keep Tryz.func105 9 (fun _ _ => .F2 _) (fun _ _ => xi_v _) (fun _ => by kernel_rfl)
set_option maxRecDepth 100000 in
theorem lSquare : Con Tryz.prog GlobD 53 [12] (f1 fun a => W 12 (F2 (gm (v2 a) (v2 a)))) := .w1 X1_ok GlobD.keep Tryz.func53 9 (fun _ _ => .F2 _) (fun _ _ => square_v _) (fun _ => by kernel_rfl)
def L3 : List (Fact Tryz.prog GlobD) := lSquare.fact (.con Tryz.func53 rfl (by decide) lSquare) ::
  L2
def X3 : Cx := .of [(26, 12)] (tb L3)
theorem X3_ok : CxOk Tryz.prog X3 GlobD := cx_ok L3 ⟨⟨eqok2, gd2⟩, trivial⟩ (by kernel_rfl)
set_option maxRecDepth 100000 in
theorem lMul : Con Tryz.prog GlobD 20 [12, 12] (f2 fun a b => W 12 (F2 (gm (v2 a) (v2 b)))) := by
  intro l hl
  match l, hl with
  | [a, b], hl =>
    by_cases h : a = b
    · subst h
      exact .of X3_ok GlobD.keep Tryz.func20 9 [true] (obs := [qb true (a = a)]) hl (w_ok (.F2 _)) rfl (rfl : W 12 (F2 (gm (v2 a) (v2 a))) = _) (ht rfl trivial) (by kernel_rfl)
    · exact .of X3_ok GlobD.keep Tryz.func20 9 [false] (obs := [qb false (a = b)]) hl (w_ok (.F2 _)) rfl (congrArg (W 12) (mul_v a b)) (hf h trivial) (by kernel_rfl)
def L4 : List (Fact Tryz.prog GlobD) := lReduce.fact (.con Tryz.func51 rfl (by decide) lReduce) ::
  lAdd.fact (.con Tryz.func50 rfl (by decide) lAdd) ::
  lSub.fact (.con Tryz.func26 rfl (by decide) lSub) ::
  lNeg.fact (.con Tryz.func27 rfl (by decide) lNeg) ::
  lConj.fact (.con Tryz.func61 rfl (by decide) lConj) ::
  lScale.fact (.con Tryz.func28 rfl (by decide) lScale) ::
  lXi.fact (.con Tryz.func105 rfl (by decide) lXi) ::
  lMul.fact (.con Tryz.func20 rfl (by decide) lMul) ::
  L3
def X4 : Cx := .of [] (tb L4)
theorem X4_ok : CxOk Tryz.prog X4 GlobD := cx_ok L4 trivial (by kernel_rfl)
set_option maxRecDepth 100000 in
theorem lInv : Con Tryz.prog GlobD 21 [12] (f1 fun a => W 12 (F2 (gi (v2 a)))) := .w1 X4_ok GlobD.keep Tryz.func21 9 (fun _ _ => .F2 _) (fun _ _ => F2_eq (inv_v _)) (fun _ => by kernel_rfl)
set_option maxRecDepth 100000 in
theorem qReduce : Con Tryz.prog GlobD 24 [12] (f1 fun a => W 12 (F2 (v2 a))) := .w1 X4_ok GlobD.keep Tryz.func24 9 (fun _ _ => .F2 _) (fun _ _ => rfl) (fun _ => by kernel_rfl)
set_option maxRecDepth 100000 in
theorem qAdd : Con Tryz.prog GlobD 68 [12, 12] (f2 fun a b => W 12 (F2 (ga (v2 a) (v2 b)))) := .w2 X4_ok GlobD.keep Tryz.func68 9 (fun _ _ _ _ => .F2 _) (fun _ _ _ _ => rfl) (fun _ _ => by kernel_rfl)
set_option maxRecDepth 100000 in
theorem qNeg : Con Tryz.prog GlobD 32 [12] (f1 fun a => W 12 (F2 (gn (v2 a)))) := .w1 X4_ok GlobD.keep Tryz.func32 9 (fun _ _ => .F2 _) (fun _ _ => rfl) (fun _ => by kernel_rfl)
set_option maxRecDepth 100000 in
theorem qConj : Con Tryz.prog GlobD 96 [12] (f1 fun a => W 12 (F2 (gc (v2 a)))) := .w1 X4_ok GlobD.keep Tryz.func96 9 (fun _ _ => .F2 _) (fun _ _ => rfl) (fun _ => by kernel_rfl)
set_option maxRecDepth 100000 in
theorem qScale : Con Tryz.prog GlobD 33 [12, 6] (f2 fun a k => W 12 (F2 (gk (v2 a) (num k)))) := .w2 X4_ok GlobD.keep Tryz.func33 9 (fun _ _ _ _ => .F2 _) (fun _ _ _ _ => rfl) (fun _ _ => by kernel_rfl)
theorem qmul_v (a b : List Int) : Fp.fe (num (Fp.fe (num (seg 0 6 a) * num (seg 0 6 b))) - num (Fp.fe (num (seg 6 6 a) * num (seg 6 6 b)))) ++ Fp.fe (num (Fp.fe (num (seg 0 6 a) * num (seg 6 6 b))) + num (Fp.fe (num (seg 6 6 a) * num (seg 0 6 b)))) = F2 (gm (v2 a) (v2 b)) := by
  simp only [fe_subl, fe_subr, fe_addl, fe_addr]
  rfl
set_option maxRecDepth 100000 in
theorem qMul : Con Tryz.prog GlobD 31 [12, 12] (f2 fun a b => W 12 (F2 (gm (v2 a) (v2 b)))) := .w2 X4_ok GlobD.keep Tryz.func31 9 (fun _ _ _ _ => .F2 _) (fun _ _ _ _ => qmul_v _ _) (fun _ _ => by kernel_rfl)
def L5 : List (Fact Tryz.prog GlobD) := qReduce.fact (.con Tryz.func24 rfl (by decide) qReduce) ::
  qAdd.fact (.con Tryz.func68 rfl (by decide) qAdd) ::
  qNeg.fact (.con Tryz.func32 rfl (by decide) qNeg) ::
  qConj.fact (.con Tryz.func96 rfl (by decide) qConj) ::
  qScale.fact (.con Tryz.func33 rfl (by decide) qScale) ::
  qMul.fact (.con Tryz.func31 rfl (by decide) qMul) ::
  L4
def X5 : Cx := .of [] (tb L5)
theorem X5_ok : CxOk Tryz.prog X5 GlobD := cx_ok L5 trivial (by kernel_rfl)
set_option maxRecDepth 100000 in
theorem qSub : Con Tryz.prog GlobD 30 [12, 12] (f2 fun a b => W 12 (F2 (gs (v2 a) (v2 b)))) := .w2 X5_ok GlobD.keep Tryz.func30 9 (fun _ _ _ _ => .F2 _) (fun _ _ _ _ => F2_eq (by rw [gs_eq]; exact ga_congr E2.rfl (v2_F2 _))) (fun _ _ => by kernel_rfl)
theorem qxi_v (a : List Int) : F2 (gm (v2 a) (v2 ([1, 0, 0, 0, 0, 0] ++ [1, 0, 0, 0, 0, 0]))) = F2 (gm (v2 a) (1, 1)) := by rw [show v2 ([1, 0, 0, 0, 0, 0] ++ [1, 0, 0, 0, 0, 0]) = (1, 1) by decide +kernel]
set_option maxRecDepth 100000 in
theorem qXi : Con Tryz.prog GlobD 106 [12] (f1 fun a => W 12 (F2 (gm (v2 a) (1, 1)))) := .w1 X5_ok GlobD.keep Tryz.func106 9 (fun _ _ => .F2 _) (fun _ _ => qxi_v _) (fun _ => by kernel_rfl)
theorem qinv_v (a : List Int) : F2 (gk (v2 (F2 (gc (v2 a)))) (num (Fp.fe (pw (num (seg 0 6 (F2 (gm (v2 a) (v2 (F2 (gc (v2 a)))))))) (PP - 2))))) = F2 (gi (v2 a)) := by
  rw [F2_eq (gm_congr E2.rfl (v2_F2 (gc (v2 a)))), seg_F2a]
  refine F2_eq ((gk_congr (v2_F2 _) ?_))
  rw [nfe]
  refine pw_congr ?_ _
  rw [nfe]
  congr 1
  simp only [gm, gc, gnorm]
  grind
set_option maxRecDepth 100000 in
theorem qInv : Con Tryz.prog GlobD 64 [12] (f1 fun a => W 12 (F2 (gi (v2 a)))) := .w1 X5_ok GlobD.keep Tryz.func64 9 (fun _ _ => .F2 _) (fun _ _ => qinv_v _) (fun _ => by kernel_rfl)
end Go.Proofs.YtmohopjblhgdiaaGreatDoor.S7
