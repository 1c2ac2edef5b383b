/-
  Own text.
-/
import Derived.Test.YtjamcbjghffboaaGreatDoorMSy
import Derived.Test.YtjamcbjghffboaaGreatDoorFp2AlgI
import Derived.Test.YtjamcbjghffboaaGreatDoorMFp2
set_option linter.unusedVariables false
set_option linter.unusedSimpArgs false
set_option maxRecDepth 100000
namespace Go.Proofs.YtjamcbjghffboaaGreatDoor
namespace S7
open Go Go.RowKit Reg Base Limb Sx Fp Fp2
theorem pReduce:Con Tryz.prog GlobD 115 [6] (f1 fun x=>W 6 (Fp.fe (num x))):=.un (fun _ _=>.fe _) (fun x h w g=>Fp2.pRed h w g.toGlob)
theorem pAdd:Con Tryz.prog GlobD 124 [6,6] (f2 fun x y=>W 6 (Fp.fe (num x+num y))):=.bi (fun _ _ _ _=>.fe _) (fun x h y k w g=>Fp2.pAdd h k w g.toGlob)
theorem pSub:Con Tryz.prog GlobD 117 [6,6] (f2 fun x y=>W 6 (Fp.fe (num x-num y))):=.bi (fun _ _ _ _=>.fe _) (fun x h y k w g=>Fp2.pSub h k w g.toGlob)
theorem pNeg:Con Tryz.prog GlobD 116 [6] (f1 fun x=>W 6 (Fp.fe (-num x))):=.un (fun _ _=>.fe _) (fun x h w g=>Fp2.pNeg h w g.toGlob)
theorem pMul:Con Tryz.prog GlobD 120 [6,6] (f2 fun x y=>W 6 (Fp.fe (num x*num y))):=.bi (fun _ _ _ _=>.fe _) (fun x h y k w g=>Fp2.pMul h k w g.toGlob)
theorem pInv:Con Tryz.prog GlobD 127 [6] (f1 fun x=>W 6 (Fp.fe (pw (num x) (PP-2)))):=.un (fun _ _=>.fe _) (fun x h w g=>Fp2.pInv h w g)
theorem rReduce:Con Tryz.prog GlobD 83 [6] (f1 fun x=>W 6 (Fp.fe (num x))):=.un (fun _ _=>.fe _) (fun x h w _=>Fp2.rRed h w)
theorem rAdd:Con Tryz.prog GlobD 82 [6,6] (f2 fun x y=>W 6 (Fp.fe (num x+num y))):=.bi (fun _ _ _ _=>.fe _) (fun x h y k w _=>Fp2.rAdd h k w)
theorem rSub:Con Tryz.prog GlobD 80 [6,6] (f2 fun x y=>W 6 (Fp.fe (num x-num y))):=.bi (fun _ _ _ _=>.fe _) (fun x h y k w _=>Fp2.rSub h k w)
theorem rNeg:Con Tryz.prog GlobD 84 [6] (f1 fun x=>W 6 (Fp.fe (-num x))):=.un (fun _ _=>.fe _) (fun x h w _=>Fp2.rNeg h w)
theorem rMul:Con Tryz.prog GlobD 81 [6,6] (f2 fun x y=>W 6 (Fp.fe (num x*num y))):=.bi (fun _ _ _ _=>.fe _) (fun x h y k w _=>Fp2.rMul h k w)
theorem rInv:Con Tryz.prog GlobD 89 [6] (f1 fun x=>W 6 (Fp.fe (pw (num x) (PP-2)))):=.un (fun _ _=>.fe _) (fun x h w _=>Fp2.rInv h w)
def L0:List (Fact Tryz.prog GlobD):=pReduce.fact (.con Tryz.func115 rfl (by decide) pReduce) ::
 pAdd.fact (.con Tryz.func124 rfl (by decide) pAdd) ::
 pSub.fact (.con Tryz.func117 rfl (by decide) pSub) ::
 pNeg.fact (.con Tryz.func116 rfl (by decide) pNeg) ::
 pMul.fact (.con Tryz.func120 rfl (by decide) pMul) ::
 pInv.fact (.con Tryz.func127 rfl (by decide) pInv) ::
 rReduce.fact (.con Tryz.func83 rfl (by decide) rReduce) ::
 rAdd.fact (.con Tryz.func82 rfl (by decide) rAdd) ::
 rSub.fact (.con Tryz.func80 rfl (by decide) rSub) ::
 rNeg.fact (.con Tryz.func84 rfl (by decide) rNeg) ::
 rMul.fact (.con Tryz.func81 rfl (by decide) rMul) ::
 rInv.fact (.con Tryz.func89 rfl (by decide) rInv) ::
 []
def X0:Cx:=.of [] (tb L0)
theorem X0_ok:CxOk Tryz.prog X0 GlobD:=cx_ok L0 trivial (by kernel_rfl)
def L1:List (Fact Tryz.prog GlobD):=⟨123,entI 123 X0 9,.inline X0_ok GlobD.keep Tryz.func123 rfl (by decide)⟩ ::
 ⟨121,entI 121 X0 9,.inline X0_ok GlobD.keep Tryz.func121 rfl (by decide)⟩ ::
 ⟨122,entI 122 X0 9,.inline X0_ok GlobD.keep Tryz.func122 rfl (by decide)⟩ ::
 L0
def X1:Cx:=.of [] (tb L1)
theorem X1_ok:CxOk Tryz.prog X1 GlobD:=cx_ok L1 trivial (by kernel_rfl)
def L2:List (Fact Tryz.prog GlobD):=⟨119,entI 119 X1 9,.inline X1_ok GlobD.keep Tryz.func119 rfl (by decide)⟩ ::
 L1
theorem lReduce:Con Tryz.prog GlobD 61 [12] (f1 fun a=>W 12 (F2 (v2 a))):=.w1 X1_ok GlobD.keep Tryz.func61 9 (fun _ _=>.F2 _) (fun _ _=>rfl) (fun _=>by kernel_rfl)
theorem lAdd:Con Tryz.prog GlobD 125 [12,12] (f2 fun a b=>W 12 (F2 (ga (v2 a) (v2 b)))):=.w2 X1_ok GlobD.keep Tryz.func125 9 (fun _ _ _ _=>.F2 _) (fun _ _ _ _=>rfl) (fun _ _=>by kernel_rfl)
theorem lSub:Con Tryz.prog GlobD 63 [12,12] (f2 fun a b=>W 12 (F2 (gs (v2 a) (v2 b)))):=.w2 X1_ok GlobD.keep Tryz.func63 9 (fun _ _ _ _=>.F2 _) (fun _ _ _ _=>rfl) (fun _ _=>by kernel_rfl)
theorem lNeg:Con Tryz.prog GlobD 62 [12] (f1 fun a=>W 12 (F2 (gn (v2 a)))):=.w1 X1_ok GlobD.keep Tryz.func62 9 (fun _ _=>.F2 _) (fun _ _=>rfl) (fun _=>by kernel_rfl)
theorem lConj:Con Tryz.prog GlobD 126 [12] (f1 fun a=>W 12 (F2 (gc (v2 a)))):=.w1 X1_ok GlobD.keep Tryz.func126 9 (fun _ _=>.F2 _) (fun _ _=>rfl) (fun _=>by kernel_rfl)
theorem lScale:Con Tryz.prog GlobD 72 [12,6] (f2 fun a k=>W 12 (F2 (gk (v2 a) (num k)))):=.w2 X1_ok GlobD.keep Tryz.func72 9 (fun _ _ _ _=>.F2 _) (fun _ _ _ _=>rfl) (fun _ _=>by kernel_rfl)
theorem lXi:Con Tryz.prog GlobD 67 [12] (f1 fun a=>W 12 (F2 (gm (v2 a) (1,1)))):=.w1 X1_ok GlobD.keep Tryz.func67 9 (fun _ _=>.F2 _) (fun _ _=>xi_v _) (fun _=>by kernel_rfl)
theorem lSquare:Con Tryz.prog GlobD 118 [12] (f1 fun a=>W 12 (F2 (gm (v2 a) (v2 a)))):=.w1 X1_ok GlobD.keep Tryz.func118 9 (fun _ _=>.F2 _) (fun _ _=>square_v _) (fun _=>by kernel_rfl)
def L3:List (Fact Tryz.prog GlobD):=lSquare.fact (.con Tryz.func118 rfl (by decide) lSquare) ::
 L2
def X3:Cx:=.of [(26,12)] (tb L3)
theorem X3_ok:CxOk Tryz.prog X3 GlobD:=cx_ok L3 ⟨⟨eqok2,gd2⟩,trivial⟩ (by kernel_rfl)
theorem lMul:Con Tryz.prog GlobD 64 [12,12] (f2 fun a b=>W 12 (F2 (gm (v2 a) (v2 b)))):=by
 intro l hl
 match l,hl with
 |[a,b],hl=>
  by_cases h:a=b
  ·subst h
   exact .of X3_ok GlobD.keep Tryz.func64 9 [true] (obs:=[qb true (a=a)]) hl (w_ok (.F2 _)) rfl (rfl:W 12 (F2 (gm (v2 a) (v2 a)))=_) (ht rfl trivial) (by kernel_rfl)
  ·exact .of X3_ok GlobD.keep Tryz.func64 9 [false] (obs:=[qb false (a=b)]) hl (w_ok (.F2 _)) rfl (congrArg (W 12) (mul_v a b)) (hf h trivial) (by kernel_rfl)
def L4:List (Fact Tryz.prog GlobD):=lReduce.fact (.con Tryz.func61 rfl (by decide) lReduce) ::
 lAdd.fact (.con Tryz.func125 rfl (by decide) lAdd) ::
 lSub.fact (.con Tryz.func63 rfl (by decide) lSub) ::
 lNeg.fact (.con Tryz.func62 rfl (by decide) lNeg) ::
 lConj.fact (.con Tryz.func126 rfl (by decide) lConj) ::
 lScale.fact (.con Tryz.func72 rfl (by decide) lScale) ::
 lXi.fact (.con Tryz.func67 rfl (by decide) lXi) ::
 lMul.fact (.con Tryz.func64 rfl (by decide) lMul) ::
 L3
def X4:Cx:=.of [] (tb L4)
theorem X4_ok:CxOk Tryz.prog X4 GlobD:=cx_ok L4 trivial (by kernel_rfl)
theorem lInv:Con Tryz.prog GlobD 69 [12] (f1 fun a=>W 12 (F2 (gi (v2 a)))):=.w1 X4_ok GlobD.keep Tryz.func69 9 (fun _ _=>.F2 _) (fun _ _=>F2_eq (inv_v _)) (fun _=>by kernel_rfl)
theorem qReduce:Con Tryz.prog GlobD 75 [12] (f1 fun a=>W 12 (F2 (v2 a))):=.w1 X4_ok GlobD.keep Tryz.func75 9 (fun _ _=>.F2 _) (fun _ _=>rfl) (fun _=>by kernel_rfl)
theorem qAdd:Con Tryz.prog GlobD 73 [12,12] (f2 fun a b=>W 12 (F2 (ga (v2 a) (v2 b)))):=.w2 X4_ok GlobD.keep Tryz.func73 9 (fun _ _ _ _=>.F2 _) (fun _ _ _ _=>rfl) (fun _ _=>by kernel_rfl)
theorem qNeg:Con Tryz.prog GlobD 76 [12] (f1 fun a=>W 12 (F2 (gn (v2 a)))):=.w1 X4_ok GlobD.keep Tryz.func76 9 (fun _ _=>.F2 _) (fun _ _=>rfl) (fun _=>by kernel_rfl)
theorem qConj:Con Tryz.prog GlobD 48 [12] (f1 fun a=>W 12 (F2 (gc (v2 a)))):=.w1 X4_ok GlobD.keep Tryz.func48 9 (fun _ _=>.F2 _) (fun _ _=>rfl) (fun _=>by kernel_rfl)
theorem qScale:Con Tryz.prog GlobD 128 [12,6] (f2 fun a k=>W 12 (F2 (gk (v2 a) (num k)))):=.w2 X4_ok GlobD.keep Tryz.func128 9 (fun _ _ _ _=>.F2 _) (fun _ _ _ _=>rfl) (fun _ _=>by kernel_rfl)
theorem qmul_v (a b:List Int):Fp.fe (num (Fp.fe (num (seg 0 6 a)*num (seg 0 6 b)))-num (Fp.fe (num (seg 6 6 a)*num (seg 6 6 b))))++Fp.fe (num (Fp.fe (num (seg 0 6 a)*num (seg 6 6 b)))+num (Fp.fe (num (seg 6 6 a)*num (seg 0 6 b))))=F2 (gm (v2 a) (v2 b)):=by
 simp only[fe_subl,fe_subr,fe_addl,fe_addr]
 rfl
theorem qMul:Con Tryz.prog GlobD 47 [12,12] (f2 fun a b=>W 12 (F2 (gm (v2 a) (v2 b)))):=.w2 X4_ok GlobD.keep Tryz.func47 9 (fun _ _ _ _=>.F2 _) (fun _ _ _ _=>qmul_v _ _) (fun _ _=>by kernel_rfl)
def L5:List (Fact Tryz.prog GlobD):=qReduce.fact (.con Tryz.func75 rfl (by decide) qReduce) ::
 qAdd.fact (.con Tryz.func73 rfl (by decide) qAdd) ::
 qNeg.fact (.con Tryz.func76 rfl (by decide) qNeg) ::
 qConj.fact (.con Tryz.func48 rfl (by decide) qConj) ::
 qScale.fact (.con Tryz.func128 rfl (by decide) qScale) ::
 qMul.fact (.con Tryz.func47 rfl (by decide) qMul) ::
 L4
def X5:Cx:=.of [] (tb L5)
theorem X5_ok:CxOk Tryz.prog X5 GlobD:=cx_ok L5 trivial (by kernel_rfl)
theorem qSub:Con Tryz.prog GlobD 77 [12,12] (f2 fun a b=>W 12 (F2 (gs (v2 a) (v2 b)))):=.w2 X5_ok GlobD.keep Tryz.func77 9 (fun _ _ _ _=>.F2 _) (fun _ _ _ _=>F2_eq (by rw[gs_eq];exact ga_congr E2.rfl (v2_F2 _))) (fun _ _=>by kernel_rfl)
theorem qxi_v (a:List Int):F2 (gm (v2 a) (v2 ([1,0,0,0,0,0]++[1,0,0,0,0,0])))=F2 (gm (v2 a) (1,1)):=by rw[show v2 ([1,0,0,0,0,0]++[1,0,0,0,0,0])=(1,1) by decide +kernel]
theorem qXi:Con Tryz.prog GlobD 74 [12] (f1 fun a=>W 12 (F2 (gm (v2 a) (1,1)))):=.w1 X5_ok GlobD.keep Tryz.func74 9 (fun _ _=>.F2 _) (fun _ _=>qxi_v _) (fun _=>by kernel_rfl)
theorem qinv_v (a:List Int):F2 (gk (v2 (F2 (gc (v2 a)))) (num (Fp.fe (pw (num (seg 0 6 (F2 (gm (v2 a) (v2 (F2 (gc (v2 a)))))))) (PP-2)))))=F2 (gi (v2 a)):=by
 rw[F2_eq (gm_congr E2.rfl (v2_F2 (gc (v2 a)))),seg_F2a]
 refine F2_eq ((gk_congr (v2_F2 _) ?_))
 rw[nfe]
 refine pw_congr ?_ _
 rw[nfe]
 congr 1
 simp only[gm,gc,gnorm]
 grind
theorem qInv:Con Tryz.prog GlobD 79 [12] (f1 fun a=>W 12 (F2 (gi (v2 a)))):=.w1 X5_ok GlobD.keep Tryz.func79 9 (fun _ _=>.F2 _) (fun _ _=>qinv_v _) (fun _=>by kernel_rfl)
end S7
end Go.Proofs.YtjamcbjghffboaaGreatDoor
