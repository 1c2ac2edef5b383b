/-
  Own text.
-/
import Derived.Test.YtfjiinaekcibhaaGreatDoorMSy
import Derived.Test.YtfjiinaekcibhaaGreatDoorFp2AlgI
import Derived.Test.YtfjiinaekcibhaaGreatDoorMFp2
set_option linter.unusedVariables false
set_option linter.unusedSimpArgs false
namespace Go.Proofs.YtfjiinaekcibhaaGreatDoor
namespace S7
open Go Go.RowKit Reg Base Limb Sx Fp Fp2
theorem pReduce:Con Tryz.prog GlobD 82 [6] (f1 fun x=>W 6 (Fp.fe (num x))):=.un (fun _ _=>.fe _) (fun x h w g=>Fp2.pRed h w g.toGlob)
theorem pAdd:Con Tryz.prog GlobD 69 [6,6] (f2 fun x y=>W 6 (Fp.fe (num x+num y))):=.bi (fun _ _ _ _=>.fe _) (fun x h y k w g=>Fp2.pAdd h k w g.toGlob)
theorem pSub:Con Tryz.prog GlobD 83 [6,6] (f2 fun x y=>W 6 (Fp.fe (num x-num y))):=.bi (fun _ _ _ _=>.fe _) (fun x h y k w g=>Fp2.pSub h k w g.toGlob)
theorem pNeg:Con Tryz.prog GlobD 86 [6] (f1 fun x=>W 6 (Fp.fe (-num x))):=.un (fun _ _=>.fe _) (fun x h w g=>Fp2.pNeg h w g.toGlob)
theorem pMul:Con Tryz.prog GlobD 68 [6,6] (f2 fun x y=>W 6 (Fp.fe (num x*num y))):=.bi (fun _ _ _ _=>.fe _) (fun x h y k w g=>Fp2.pMul h k w g.toGlob)
theorem pInv:Con Tryz.prog GlobD 73 [6] (f1 fun x=>W 6 (Fp.fe (pw (num x) (PP-2)))):=.un (fun _ _=>.fe _) (fun x h w g=>Fp2.pInv h w g)
def L0:List (Fact Tryz.prog GlobD):=pReduce.fact (.con Tryz.func82 rfl (by decide) pReduce) ::
 pAdd.fact (.con Tryz.func69 rfl (by decide) pAdd) ::
 pSub.fact (.con Tryz.func83 rfl (by decide) pSub) ::
 pNeg.fact (.con Tryz.func86 rfl (by decide) pNeg) ::
 pMul.fact (.con Tryz.func68 rfl (by decide) pMul) ::
 pInv.fact (.con Tryz.func73 rfl (by decide) pInv) ::
 []
def X0:Cx:=.of [] (tb L0)
theorem X0_ok:CxOk Tryz.prog X0 GlobD:=cx_ok L0 trivial (by kernel_rfl)
def L1:List (Fact Tryz.prog GlobD):=⟨100,entI 100 X0 9,.inline X0_ok GlobD.keep Tryz.func100 rfl (by decide)⟩ ::
 ⟨98,entI 98 X0 9,.inline X0_ok GlobD.keep Tryz.func98 rfl (by decide)⟩ ::
 ⟨99,entI 99 X0 9,.inline X0_ok GlobD.keep Tryz.func99 rfl (by decide)⟩ ::
 L0
def X1:Cx:=.of [] (tb L1)
theorem X1_ok:CxOk Tryz.prog X1 GlobD:=cx_ok L1 trivial (by kernel_rfl)
def L2:List (Fact Tryz.prog GlobD):=⟨97,entI 97 X1 9,.inline X1_ok GlobD.keep Tryz.func97 rfl (by decide)⟩ ::
 L1
set_option maxRecDepth 100000 in
theorem lReduce:Con Tryz.prog GlobD 48 [12] (f1 fun a=>W 12 (F2 (v2 a))):=.w1 X1_ok GlobD.keep Tryz.func48 9 (fun _ _=>.F2 _) (fun _ _=>rfl) (fun _=>by kernel_rfl)
set_option maxRecDepth 100000 in
theorem lAdd:Con Tryz.prog GlobD 74 [12,12] (f2 fun a b=>W 12 (F2 (ga (v2 a) (v2 b)))):=.w2 X1_ok GlobD.keep Tryz.func74 9 (fun _ _ _ _=>.F2 _) (fun _ _ _ _=>rfl) (fun _ _=>by kernel_rfl)
set_option maxRecDepth 100000 in
theorem lSub:Con Tryz.prog GlobD 66 [12,12] (f2 fun a b=>W 12 (F2 (gs (v2 a) (v2 b)))):=.w2 X1_ok GlobD.keep Tryz.func66 9 (fun _ _ _ _=>.F2 _) (fun _ _ _ _=>rfl) (fun _ _=>by kernel_rfl)
set_option maxRecDepth 100000 in
theorem lNeg:Con Tryz.prog GlobD 49 [12] (f1 fun a=>W 12 (F2 (gn (v2 a)))):=.w1 X1_ok GlobD.keep Tryz.func49 9 (fun _ _=>.F2 _) (fun _ _=>rfl) (fun _=>by kernel_rfl)
set_option maxRecDepth 100000 in
theorem lConj:Con Tryz.prog GlobD 91 [12] (f1 fun a=>W 12 (F2 (gc (v2 a)))):=.w1 X1_ok GlobD.keep Tryz.func91 9 (fun _ _=>.F2 _) (fun _ _=>rfl) (fun _=>by kernel_rfl)
set_option maxRecDepth 100000 in
theorem lScale:Con Tryz.prog GlobD 110 [12,6] (f2 fun a k=>W 12 (F2 (gk (v2 a) (num k)))):=.w2 X1_ok GlobD.keep Tryz.func110 9 (fun _ _ _ _=>.F2 _) (fun _ _ _ _=>rfl) (fun _ _=>by kernel_rfl)
set_option maxRecDepth 100000 in
theorem lXi:Con Tryz.prog GlobD 67 [12] (f1 fun a=>W 12 (F2 (gm (v2 a) (1,1)))):=.w1 X1_ok GlobD.keep Tryz.func67 9 (fun _ _=>.F2 _) (fun _ _=>xi_v _) (fun _=>by kernel_rfl)
set_option maxRecDepth 100000 in
theorem lSquare:Con Tryz.prog GlobD 96 [12] (f1 fun a=>W 12 (F2 (gm (v2 a) (v2 a)))):=.w1 X1_ok GlobD.keep Tryz.func96 9 (fun _ _=>.F2 _) (fun _ _=>square_v _) (fun _=>by kernel_rfl)
def L3:List (Fact Tryz.prog GlobD):=lSquare.fact (.con Tryz.func96 rfl (by decide) lSquare) ::
 L2
def X3:Cx:=.of [(30,12)] (tb L3)
theorem X3_ok:CxOk Tryz.prog X3 GlobD:=cx_ok L3 ⟨⟨eqok2,gd2⟩,trivial⟩ (by kernel_rfl)
set_option maxRecDepth 100000 in
theorem lMul:Con Tryz.prog GlobD 64 [12,12] (f2 fun a b=>W 12 (F2 (gm (v2 a) (v2 b)))):=by
 intro l hl
 match l,hl with
 |[a,b],hl=>
  by_cases h:a=b
  ·subst h
   exact .of X3_ok GlobD.keep Tryz.func64 9 [true] (obs:=[qb true (a=a)]) hl (w_ok (.F2 _)) rfl (rfl:W 12 (F2 (gm (v2 a) (v2 a)))=_) (ht rfl trivial) (by kernel_rfl)
  ·exact .of X3_ok GlobD.keep Tryz.func64 9 [false] (obs:=[qb false (a=b)]) hl (w_ok (.F2 _)) rfl (congrArg (W 12) (mul_v a b)) (hf h trivial) (by kernel_rfl)
def L4:List (Fact Tryz.prog GlobD):=lReduce.fact (.con Tryz.func48 rfl (by decide) lReduce) ::
 lAdd.fact (.con Tryz.func74 rfl (by decide) lAdd) ::
 lSub.fact (.con Tryz.func66 rfl (by decide) lSub) ::
 lNeg.fact (.con Tryz.func49 rfl (by decide) lNeg) ::
 lConj.fact (.con Tryz.func91 rfl (by decide) lConj) ::
 lScale.fact (.con Tryz.func110 rfl (by decide) lScale) ::
 lXi.fact (.con Tryz.func67 rfl (by decide) lXi) ::
 lMul.fact (.con Tryz.func64 rfl (by decide) lMul) ::
 L3
def X4:Cx:=.of [] (tb L4)
theorem X4_ok:CxOk Tryz.prog X4 GlobD:=cx_ok L4 trivial (by kernel_rfl)
set_option maxRecDepth 100000 in
theorem lInv:Con Tryz.prog GlobD 78 [12] (f1 fun a=>W 12 (F2 (gi (v2 a)))):=.w1 X4_ok GlobD.keep Tryz.func78 9 (fun _ _=>.F2 _) (fun _ _=>F2_eq (inv_v _)) (fun _=>by kernel_rfl)
end S7
end Go.Proofs.YtfjiinaekcibhaaGreatDoor
