/-
  Own text.
-/
import Derived.Test.YtjamcbjghffboaaGreatDoorS7
import Derived.Test.YtjamcbjghffboaaGreatDoorMK
import Derived.Test.YtjamcbjghffboaaGreatDoorMPt
import Derived.Test.YtjamcbjghffboaaGreatDoorMCu
import Derived.Test.YtjamcbjghffboaaGreatDoorSxW
set_option linter.unusedVariables false
set_option linter.unusedSimpArgs false
set_option linter.unusedSectionVars false
set_option maxRecDepth 100000
namespace Go.Proofs.YtjamcbjghffboaaGreatDoor
namespace S9
open Go Go.RowKit Reg Base Limb Sx Fp Fp2 Fp6
def L0:List (Fact Tryz.prog GlobD):=S7.lReduce.fact (.con Tryz.func61 rfl (by decide) S7.lReduce) ::
 S7.lAdd.fact (.con Tryz.func125 rfl (by decide) S7.lAdd) ::
 S7.lSub.fact (.con Tryz.func63 rfl (by decide) S7.lSub) ::
 S7.lNeg.fact (.con Tryz.func62 rfl (by decide) S7.lNeg) ::
 S7.lXi.fact (.con Tryz.func67 rfl (by decide) S7.lXi) ::
 S7.lMul.fact (.con Tryz.func64 rfl (by decide) S7.lMul) ::
 S7.lInv.fact (.con Tryz.func69 rfl (by decide) S7.lInv) ::
 S7.qReduce.fact (.con Tryz.func75 rfl (by decide) S7.qReduce) ::
 S7.qAdd.fact (.con Tryz.func73 rfl (by decide) S7.qAdd) ::
 S7.qSub.fact (.con Tryz.func77 rfl (by decide) S7.qSub) ::
 S7.qNeg.fact (.con Tryz.func76 rfl (by decide) S7.qNeg) ::
 S7.qMul.fact (.con Tryz.func47 rfl (by decide) S7.qMul) ::
 S7.qXi.fact (.con Tryz.func74 rfl (by decide) S7.qXi) ::
 []
def X0:Cx:=.of [] (tb L0)
theorem X0_ok:CxOk Tryz.prog X0 GlobD:=cx_ok L0 trivial (by kernel_rfl)
def L1:List (Fact Tryz.prog GlobD):=⟨66,entI 66 X0 9,.inline X0_ok GlobD.keep Tryz.func66 rfl (by decide)⟩ ::
 L0
def X1:Cx:=.of [] (tb L1)
theorem X1_ok:CxOk Tryz.prog X1 GlobD:=cx_ok L1 trivial (by kernel_rfl)
def L2:List (Fact Tryz.prog GlobD):=⟨65,entI 65 X1 9,.inline X1_ok GlobD.keep Tryz.func65 rfl (by decide)⟩ ::
 L1
def X2:Cx:=.of [] (tb L2)
theorem X2_ok:CxOk Tryz.prog X2 GlobD:=cx_ok L2 trivial (by kernel_rfl)
theorem lReduce:Con Tryz.prog GlobD 30 [36] (f1 fun a=>W 36 (F6 (v6 a))):=.w1 X1_ok GlobD.keep Tryz.func30 9 (fun _ _=>Fp6.Nm.F6 _) (fun _ _=>rfl) (fun _=>by kernel_rfl)
theorem lAdd:Con Tryz.prog GlobD 59 [36,36] (f2 fun a b=>W 36 (F6 (Fp6.ha (v6 a) (v6 b)))):=.w2 X1_ok GlobD.keep Tryz.func59 9 (fun _ _ _ _=>Fp6.Nm.F6 _) (fun _ _ _ _=>rfl) (fun _ _=>by kernel_rfl)
theorem lSub:Con Tryz.prog GlobD 32 [36,36] (f2 fun a b=>W 36 (F6 (Fp6.hs (v6 a) (v6 b)))):=.w2 X1_ok GlobD.keep Tryz.func32 9 (fun _ _ _ _=>Fp6.Nm.F6 _) (fun _ _ _ _=>rfl) (fun _ _=>by kernel_rfl)
theorem lNeg:Con Tryz.prog GlobD 31 [36] (f1 fun a=>W 36 (F6 (Fp6.hn (v6 a)))):=.w1 X1_ok GlobD.keep Tryz.func31 9 (fun _ _=>Fp6.Nm.F6 _) (fun _ _=>rfl) (fun _=>by kernel_rfl)
theorem lScale:Con Tryz.prog GlobD 68 [36,12] (f2 fun a k=>W 36 (F6 (Fp6.hk (v6 a) (v2 k)))):=.w2 X1_ok GlobD.keep Tryz.func68 9 (fun _ _ _ _=>Fp6.Nm.F6 _) (fun _ _ _ _=>rfl) (fun _ _=>by kernel_rfl)
theorem lV:Con Tryz.prog GlobD 34 [36] (f1 fun a=>W 36 (F6 (Fp6.hv (v6 a)))):=.w1 X1_ok GlobD.keep Tryz.func34 9 (fun _ _=>Fp6.Nm.F6 _) (fun _ _=>rfl) (fun _=>by kernel_rfl)
theorem cross (x y z t:G):gs (gm (ga x y) (ga z t)) (ga (gm x z) (gm y t))=ga (gm x t) (gm y z):=by
 obtain⟨x0,x1⟩:=x;obtain⟨y0,y1⟩:=y;obtain⟨z0,z1⟩:=z;obtain⟨t0,t1⟩:=t
 apply Prod.ext<;>simp only[gs,gm,ga]<;>grind
theorem ga_swap (x y z:G):ga (ga x z) y=ga (ga x y) z:=by rw[ga_assoc,ga_comm z y,<-ga_assoc]
theorem f2l {f:G->G->G}(hf:∀{p p' q q':G},E2 p p'->E2 q q'->E2 (f p q) (f p' q'))(x:G)(y:G):F2 (f (v2 (F2 x)) y)=F2 (f x y):=F2_eq (hf (v2_F2 _) E2.rfl)
theorem f2r {f:G->G->G}(hf:∀{p p' q q':G},E2 p p'->E2 q q'->E2 (f p q) (f p' q'))(x:G)(y:G):F2 (f x (v2 (F2 y)))=F2 (f x y):=F2_eq (hf E2.rfl (v2_F2 _))
theorem al (x y:G):F2 (ga (v2 (F2 x)) y)=F2 (ga x y):=f2l ga_congr x y
theorem ar (x y:G):F2 (ga x (v2 (F2 y)))=F2 (ga x y):=f2r ga_congr x y
theorem sl (x y:G):F2 (gs (v2 (F2 x)) y)=F2 (gs x y):=f2l gs_congr x y
theorem sr (x y:G):F2 (gs x (v2 (F2 y)))=F2 (gs x y):=f2r gs_congr x y
theorem ml (x y:G):F2 (gm (v2 (F2 x)) y)=F2 (gm x y):=f2l gm_congr x y
theorem mr (x y:G):F2 (gm x (v2 (F2 y)))=F2 (gm x y):=f2r gm_congr x y
theorem z2:v2 [0,0,0,0,0,0,0,0,0,0,0,0]=(0,0):=by decide
theorem f6 {p q r x y z:G}(h1:p=x)(h2:q=y)(h3:r=z):F2 p++F2 q++F2 r=F6 (x,y,z):=by subst h1 h2 h3;rfl
theorem lmul_v (a b:List Int):F2 (ga (v2 (F2 (gm (v2 (seg 0 12 a)) (v2 (seg 0 12 b))))) (v2 (F2 (gm (v2 (F2 (gs (v2 (F2 (gm (v2 (F2 (ga (v2 (seg 12 12 a)) (v2 (seg 24 12 a))))) (v2 (F2 (ga (v2 (seg 12 12 b)) (v2 (seg 24 12 b)))))))) (v2 (F2 (ga (v2 (F2 (gm (v2 (seg 12 12 a)) (v2 (seg 12 12 b))))) (v2 (F2 (gm (v2 (seg 24 12 a)) (v2 (seg 24 12 b))))))))))) (1,1)))))++F2 (ga (v2 (F2 (gs (v2 (F2 (gm (v2 (F2 (ga (v2 (seg 0 12 a)) (v2 (seg 12 12 a))))) (v2 (F2 (ga (v2 (seg 0 12 b)) (v2 (seg 12 12 b)))))))) (v2 (F2 (ga (v2 (F2 (gm (v2 (seg 0 12 a)) (v2 (seg 0 12 b))))) (v2 (F2 (gm (v2 (seg 12 12 a)) (v2 (seg 12 12 b))))))))))) (v2 (F2 (gm (v2 (F2 (gm (v2 (seg 24 12 a)) (v2 (seg 24 12 b))))) (1,1)))))++F2 (ga (v2 (F2 (gs (v2 (F2 (gm (v2 (F2 (ga (v2 (seg 0 12 a)) (v2 (seg 24 12 a))))) (v2 (F2 (ga (v2 (seg 0 12 b)) (v2 (seg 24 12 b)))))))) (v2 (F2 (ga (v2 (F2 (gm (v2 (seg 0 12 a)) (v2 (seg 0 12 b))))) (v2 (F2 (gm (v2 (seg 24 12 a)) (v2 (seg 24 12 b))))))))))) (v2 (F2 (gm (v2 (seg 12 12 a)) (v2 (seg 12 12 b))))))=F6 (Fp6.hm (v6 a) (v6 b)):=by
 simp only[al,ar,sl,sr,ml,mr]
 rw[cross,cross,cross]
 exact f6 rfl rfl (ga_swap _ _ _)
theorem lMul:Con Tryz.prog GlobD 33 [36,36] (f2 fun a b=>W 36 (F6 (Fp6.hm (v6 a) (v6 b)))):=.w2 X2_ok GlobD.keep Tryz.func33 9 (fun _ _ _ _=>Fp6.Nm.F6 _) (fun _ _ _ _=>lmul_v _ _) (fun _ _=>by kernel_rfl)
def L3:List (Fact Tryz.prog GlobD):=lReduce.fact (.con Tryz.func30 rfl (by decide) lReduce) ::
 lAdd.fact (.con Tryz.func59 rfl (by decide) lAdd) ::
 lSub.fact (.con Tryz.func32 rfl (by decide) lSub) ::
 lNeg.fact (.con Tryz.func31 rfl (by decide) lNeg) ::
 lScale.fact (.con Tryz.func68 rfl (by decide) lScale) ::
 lV.fact (.con Tryz.func34 rfl (by decide) lV) ::
 lMul.fact (.con Tryz.func33 rfl (by decide) lMul) ::
 L1
def X3:Cx:=.of [] (tb L3)
theorem X3_ok:CxOk Tryz.prog X3 GlobD:=cx_ok L3 trivial (by kernel_rfl)
theorem nrm_r (p q:H):ga (ga (gm p.1 q.1) (gm (gm p.2.1 q.2.2) (1,1))) (gm (gm p.2.2 q.2.1) (1,1))=(hm p q).1:=by
 obtain⟨⟨a0,a1⟩,⟨b0,b1⟩,c0,c1⟩:=p
 obtain⟨⟨d0,d1⟩,⟨e0,e1⟩,f0,f1⟩:=q
 apply Prod.ext<;>simp only[hm,gx,ga,gm]<;>grind
theorem linv_v (a:List Int):F6 (Fp6.hk (v6 (F2 (gs (v2 (F2 (gm (v2 (seg 0 12 a)) (v2 (seg 0 12 a))))) (v2 (F2 (gm (v2 (F2 (gm (v2 (seg 12 12 a)) (v2 (seg 24 12 a))))) (1,1)))))++F2 (gs (v2 (F2 (gm (v2 (F2 (gm (v2 (seg 24 12 a)) (v2 (seg 24 12 a))))) (1,1)))) (v2 (F2 (gm (v2 (seg 0 12 a)) (v2 (seg 12 12 a))))))++F2 (gs (v2 (F2 (gm (v2 (seg 12 12 a)) (v2 (seg 12 12 a))))) (v2 (F2 (gm (v2 (seg 0 12 a)) (v2 (seg 24 12 a)))))))) (v2 (F2 (gi (v2 (F2 (ga (v2 (F2 (ga (v2 (F2 (gm (v2 (seg 0 12 a)) (v2 (F2 (gs (v2 (F2 (gm (v2 (seg 0 12 a)) (v2 (seg 0 12 a))))) (v2 (F2 (gm (v2 (F2 (gm (v2 (seg 12 12 a)) (v2 (seg 24 12 a))))) (1,1)))))))))) (v2 (F2 (gm (v2 (F2 (gm (v2 (seg 12 12 a)) (v2 (F2 (gs (v2 (F2 (gm (v2 (seg 12 12 a)) (v2 (seg 12 12 a))))) (v2 (F2 (gm (v2 (seg 0 12 a)) (v2 (seg 24 12 a))))))))))) (1,1))))))) (v2 (F2 (gm (v2 (F2 (gm (v2 (seg 24 12 a)) (v2 (F2 (gs (v2 (F2 (gm (v2 (F2 (gm (v2 (seg 24 12 a)) (v2 (seg 24 12 a))))) (1,1)))) (v2 (F2 (gm (v2 (seg 0 12 a)) (v2 (seg 12 12 a))))))))))) (1,1)))))))))))=F6 (Fp6.hi (v6 a)):=by
 simp only[al,ar,sl,sr,ml,mr]
 exact F6_eq (hk_congr (v6_F6 (Fp6.hc (v6 a))) ((v2_F2 _).trans (gi_congr ((v2_F2 _).trans (by rw[<-nrm_r (v6 a) (Fp6.hc (v6 a))];exact E2.rfl)))))
theorem lInv:Con Tryz.prog GlobD 35 [36] (f1 fun a=>W 36 (F6 (Fp6.hi (v6 a)))):=by
 intro l hl
 match l,hl with
 |[a],hl=>exact .ofk X3_ok GlobD.keep Tryz.func35 9 [] (obs:=[]) hl 1 (w_ok (Fp6.Nm.F6 _)) rfl (congrArg (W 36) (linv_v a)) trivial (by kernel_rfl)
theorem qReduce:Con Tryz.prog GlobD 42 [36] (f1 fun a=>W 36 (F6 (v6 a))):=.w1 X0_ok GlobD.keep Tryz.func42 9 (fun _ _=>Fp6.Nm.F6 _) (fun _ _=>rfl) (fun _=>by kernel_rfl)
theorem qAdd:Con Tryz.prog GlobD 39 [36,36] (f2 fun a b=>W 36 (F6 (Fp6.ha (v6 a) (v6 b)))):=.w2 X0_ok GlobD.keep Tryz.func39 9 (fun _ _ _ _=>Fp6.Nm.F6 _) (fun _ _ _ _=>rfl) (fun _ _=>by kernel_rfl)
theorem qNeg:Con Tryz.prog GlobD 43 [36] (f1 fun a=>W 36 (F6 (Fp6.hn (v6 a)))):=.w1 X0_ok GlobD.keep Tryz.func43 9 (fun _ _=>Fp6.Nm.F6 _) (fun _ _=>rfl) (fun _=>by kernel_rfl)
theorem qScale:Con Tryz.prog GlobD 78 [36,12] (f2 fun a k=>W 36 (F6 (Fp6.hk (v6 a) (v2 k)))):=.w2 X0_ok GlobD.keep Tryz.func78 9 (fun _ _ _ _=>Fp6.Nm.F6 _) (fun _ _ _ _=>rfl) (fun _ _=>by kernel_rfl)
theorem gz (x:G):ga (0,0) x=x:=by rw[ga_comm,ga_zero]
theorem qmul_v (a b:List Int):F2 (ga (v2 (F2 (ga (v2 ([0,0,0,0,0,0,0,0,0,0,0,0])) (v2 (F2 (gm (v2 (seg 0 12 a)) (v2 (seg 0 12 b)))))))) (v2 (F2 (gm (v2 (F2 (ga (v2 (F2 (ga (v2 ([0,0,0,0,0,0,0,0,0,0,0,0])) (v2 (F2 (gm (v2 (seg 12 12 a)) (v2 (seg 24 12 b)))))))) (v2 (F2 (gm (v2 (seg 24 12 a)) (v2 (seg 12 12 b)))))))) (1,1)))))++F2 (ga (v2 (F2 (ga (v2 (F2 (ga (v2 ([0,0,0,0,0,0,0,0,0,0,0,0])) (v2 (F2 (gm (v2 (seg 0 12 a)) (v2 (seg 12 12 b)))))))) (v2 (F2 (gm (v2 (seg 12 12 a)) (v2 (seg 0 12 b)))))))) (v2 (F2 (gm (v2 (F2 (ga (v2 ([0,0,0,0,0,0,0,0,0,0,0,0])) (v2 (F2 (gm (v2 (seg 24 12 a)) (v2 (seg 24 12 b)))))))) (1,1)))))++F2 (ga (v2 (F2 (ga (v2 (F2 (ga (v2 ([0,0,0,0,0,0,0,0,0,0,0,0])) (v2 (F2 (gm (v2 (seg 0 12 a)) (v2 (seg 24 12 b)))))))) (v2 (F2 (gm (v2 (seg 12 12 a)) (v2 (seg 12 12 b)))))))) (v2 (F2 (gm (v2 (seg 24 12 a)) (v2 (seg 0 12 b))))))=F6 (Fp6.hm (v6 a) (v6 b)):=by
 simp only[al,ar,sl,sr,ml,mr,z2,gz]
 exact f6 rfl rfl rfl
theorem qMul:Con Tryz.prog GlobD 40 [36,36] (f2 fun a b=>W 36 (F6 (Fp6.hm (v6 a) (v6 b)))):=.w2 X0_ok GlobD.keep Tryz.func40 9 (fun _ _ _ _=>Fp6.Nm.F6 _) (fun _ _ _ _=>qmul_v _ _) (fun _ _=>by kernel_rfl)
def L4:List (Fact Tryz.prog GlobD):=qReduce.fact (.con Tryz.func42 rfl (by decide) qReduce) ::
 qAdd.fact (.con Tryz.func39 rfl (by decide) qAdd) ::
 qNeg.fact (.con Tryz.func43 rfl (by decide) qNeg) ::
 qScale.fact (.con Tryz.func78 rfl (by decide) qScale) ::
 qMul.fact (.con Tryz.func40 rfl (by decide) qMul) ::
 L3
def X4:Cx:=.of [] (tb L4)
theorem X4_ok:CxOk Tryz.prog X4 GlobD:=cx_ok L4 trivial (by kernel_rfl)
theorem hc_r (a:List Int):(F2 (gs (v2 (F2 (gm (v2 (seg 0 12 a)) (v2 (seg 0 12 a))))) (v2 (F2 (gm (v2 (F2 (gm (v2 (seg 12 12 a)) (v2 (seg 24 12 a))))) (1,1)))))++F2 (gs (v2 (F2 (gm (v2 (F2 (gm (v2 (seg 24 12 a)) (v2 (seg 24 12 a))))) (1,1)))) (v2 (F2 (gm (v2 (seg 0 12 a)) (v2 (seg 12 12 a))))))++F2 (gs (v2 (F2 (gm (v2 (seg 12 12 a)) (v2 (seg 12 12 a))))) (v2 (F2 (gm (v2 (seg 0 12 a)) (v2 (seg 24 12 a)))))))=F6 (Fp6.hc (v6 a)):=by
 simp only[al,ar,sl,sr,ml,mr]
 rfl
theorem qinv_v (a:List Int):F6 (Fp6.hk (v6 (F2 (gs (v2 (F2 (gm (v2 (seg 0 12 a)) (v2 (seg 0 12 a))))) (v2 (F2 (gm (v2 (F2 (gm (v2 (seg 12 12 a)) (v2 (seg 24 12 a))))) (1,1)))))++F2 (gs (v2 (F2 (gm (v2 (F2 (gm (v2 (seg 24 12 a)) (v2 (seg 24 12 a))))) (1,1)))) (v2 (F2 (gm (v2 (seg 0 12 a)) (v2 (seg 12 12 a))))))++F2 (gs (v2 (F2 (gm (v2 (seg 12 12 a)) (v2 (seg 12 12 a))))) (v2 (F2 (gm (v2 (seg 0 12 a)) (v2 (seg 24 12 a)))))))) (v2 (F2 (gi (v2 (seg 0 12 (F6 (Fp6.hm (v6 a) (v6 (F2 (gs (v2 (F2 (gm (v2 (seg 0 12 a)) (v2 (seg 0 12 a))))) (v2 (F2 (gm (v2 (F2 (gm (v2 (seg 12 12 a)) (v2 (seg 24 12 a))))) (1,1)))))++F2 (gs (v2 (F2 (gm (v2 (F2 (gm (v2 (seg 24 12 a)) (v2 (seg 24 12 a))))) (1,1)))) (v2 (F2 (gm (v2 (seg 0 12 a)) (v2 (seg 12 12 a))))))++F2 (gs (v2 (F2 (gm (v2 (seg 12 12 a)) (v2 (seg 12 12 a))))) (v2 (F2 (gm (v2 (seg 0 12 a)) (v2 (seg 24 12 a))))))))))))))))=F6 (Fp6.hi (v6 a)):=by
 rw[hc_r,seg_F6a]
 exact F6_eq (hk_congr (v6_F6 _) ((v2_F2 _).trans (gi_congr ((v2_F2 _).trans (hm_congr E6.rfl (v6_F6 _)).1))))
def V1:List Int:=List.replicate 12 0++[1]++List.replicate 23 0
theorem qv_v (a:List Int):F6 (Fp6.hm (v6 a) (v6 V1))=F6 (Fp6.hv (v6 a)):=by rw[show v6 V1=((0,0),(1,0),(0,0)) by decide +kernel,hm_v]
def L5:List (Fact Tryz.prog GlobD):=S7.qInv.fact (.con Tryz.func79 rfl (by decide) S7.qInv) ::
 qMul.fact (.con Tryz.func40 rfl (by decide) qMul) ::
 qScale.fact (.con Tryz.func78 rfl (by decide) qScale) ::
 L0
def X5:Cx:=.of [] (tb L5)
theorem X5_ok:CxOk Tryz.prog X5 GlobD:=cx_ok L5 trivial (by kernel_rfl)
theorem qInv:Con Tryz.prog GlobD 44 [36] (f1 fun a=>W 36 (F6 (Fp6.hi (v6 a)))):=.w1 X5_ok GlobD.keep Tryz.func44 9 (fun _ _=>Fp6.Nm.F6 _) (fun _ _=>qinv_v _) (fun _=>by kernel_rfl)
theorem qV:Con Tryz.prog GlobD 41 [36] (f1 fun a=>W 36 (F6 (Fp6.hv (v6 a)))):=.w1 X4_ok GlobD.keep Tryz.func41 9 (fun _ _=>Fp6.Nm.F6 _) (fun _ _=>qv_v _) (fun _=>by kernel_rfl)
end S9
namespace S10
open Go Go.RowKit Reg Base Limb Sx Fp Fp2 Fp6 Fp12
def L0:List (Fact Tryz.prog GlobD):=S9.lReduce.fact (.con Tryz.func30 rfl (by decide) S9.lReduce) ::
 S9.lAdd.fact (.con Tryz.func59 rfl (by decide) S9.lAdd) ::
 S9.lSub.fact (.con Tryz.func32 rfl (by decide) S9.lSub) ::
 S9.lNeg.fact (.con Tryz.func31 rfl (by decide) S9.lNeg) ::
 S9.lV.fact (.con Tryz.func34 rfl (by decide) S9.lV) ::
 S9.lMul.fact (.con Tryz.func33 rfl (by decide) S9.lMul) ::
 S9.lInv.fact (.con Tryz.func35 rfl (by decide) S9.lInv) ::
 S9.qReduce.fact (.con Tryz.func42 rfl (by decide) S9.qReduce) ::
 S9.qAdd.fact (.con Tryz.func39 rfl (by decide) S9.qAdd) ::
 S9.qNeg.fact (.con Tryz.func43 rfl (by decide) S9.qNeg) ::
 S9.qMul.fact (.con Tryz.func40 rfl (by decide) S9.qMul) ::
 S9.qInv.fact (.con Tryz.func44 rfl (by decide) S9.qInv) ::
 S9.qV.fact (.con Tryz.func41 rfl (by decide) S9.qV) ::
 []
def X0:Cx:=.of [] (tb L0)
theorem X0_ok:CxOk Tryz.prog X0 GlobD:=cx_ok L0 trivial (by kernel_rfl)
theorem kr {f:K->K->K}(hf:∀{p p' q q':K},E12 p p'->E12 q q'->E12 (f p q) (f p' q'))(x y:K):F12 (f x (v12 (F12 y)))=F12 (f x y):=F12_eq (hf E12.rfl (v12_F12 _))
theorem hl {f:H->H->H}(hf:∀{p p' q q':H},E6 p p'->E6 q q'->E6 (f p q) (f p' q'))(x y:H):F6 (f (v6 (F6 x)) y)=F6 (f x y):=F6_eq (hf (v6_F6 _) E6.rfl)
theorem hr {f:H->H->H}(hf:∀{p p' q q':H},E6 p p'->E6 q q'->E6 (f p q) (f p' q'))(x y:H):F6 (f x (v6 (F6 y)))=F6 (f x y):=F6_eq (hf E6.rfl (v6_F6 _))
theorem hal (x y:H):F6 (Fp6.ha (v6 (F6 x)) y)=F6 (Fp6.ha x y):=hl ha_congr x y
theorem har (x y:H):F6 (Fp6.ha x (v6 (F6 y)))=F6 (Fp6.ha x y):=hr ha_congr x y
theorem hsl (x y:H):F6 (Fp6.hs (v6 (F6 x)) y)=F6 (Fp6.hs x y):=hl hs_congr x y
theorem hsr (x y:H):F6 (Fp6.hs x (v6 (F6 y)))=F6 (Fp6.hs x y):=hr hs_congr x y
theorem hml (x y:H):F6 (Fp6.hm (v6 (F6 x)) y)=F6 (Fp6.hm x y):=hl hm_congr x y
theorem hmr (x y:H):F6 (Fp6.hm x (v6 (F6 y)))=F6 (Fp6.hm x y):=hr hm_congr x y
theorem hv_ (x:H):F6 (Fp6.hv (v6 (F6 x)))=F6 (Fp6.hv x):=F6_eq ⟨gx_congr (v6_F6 x).2.2,(v6_F6 x).1,(v6_F6 x).2.1⟩
theorem hi_ (x:H):F6 (Fp6.hi (v6 (F6 x)))=F6 (Fp6.hi x):=F6_eq (hi_congr (v6_F6 x))
theorem hmi (x y:H):F6 (Fp6.hm x (Fp6.hi (v6 (F6 y))))=F6 (Fp6.hm x (Fp6.hi y)):=F6_eq (hm_congr E6.rfl (hi_congr (v6_F6 _)))
theorem f12 {p q x y:H}(h1:p=x)(h2:q=y):F6 p++F6 q=F12 (x,y):=by subst h1 h2;rfl
theorem hcross (x y z t:H):Fp6.hs (Fp6.hm (Fp6.ha x y) (Fp6.ha z t)) (Fp6.ha (Fp6.hm x z) (Fp6.hm y t))=Fp6.ha (Fp6.hm x t) (Fp6.hm y z):=by
 rw[hm_ha,Fp12.ha_hm,Fp12.ha_hm]
 generalize Fp6.hm x z=p;generalize Fp6.hm y t=q;generalize Fp6.hm x t=r;generalize Fp6.hm y z=s
 obtain⟨⟨a0,a1⟩,⟨b0,b1⟩,c0,c1⟩:=p
 obtain⟨⟨d0,d1⟩,⟨e0,e1⟩,f0,f1⟩:=q
 obtain⟨⟨g0,g1⟩,⟨h0,h1⟩,i0,i1⟩:=r
 obtain⟨⟨j0,j1⟩,⟨k0,k1⟩,l0,l1⟩:=s
 simp only[Fp6.hs,Fp6.ha,gs,ga,Prod.mk.injEq]
 omega
theorem qConj:Con Tryz.prog GlobD 20 [72] (f1 fun a=>W 72 (F12 (Fp12.kc (v12 a)))):=.w1 X0_ok GlobD.keep Tryz.func20 9 (fun _ _=>Fp12.Nm.F12 _) (fun _ _=>rfl) (fun _=>by kernel_rfl)
theorem qmul_v (a b:List Int):F6 (Fp6.ha (v6 (F6 (Fp6.hm (v6 (seg 0 36 a)) (v6 (seg 0 36 b))))) (v6 (F6 (Fp6.hv (v6 (F6 (Fp6.hm (v6 (seg 36 36 a)) (v6 (seg 36 36 b)))))))))++F6 (Fp6.ha (v6 (F6 (Fp6.hm (v6 (seg 0 36 a)) (v6 (seg 36 36 b))))) (v6 (F6 (Fp6.hm (v6 (seg 36 36 a)) (v6 (seg 0 36 b))))))=F12 (Fp12.km (v12 a) (v12 b)):=by
 simp only[hal,har,hsl,hsr,hml,hmr,hv_]
 rfl
theorem qMul:Con Tryz.prog GlobD 19 [72,72] (f2 fun a b=>W 72 (F12 (Fp12.km (v12 a) (v12 b)))):=.w2 X0_ok GlobD.keep Tryz.func19 9 (fun _ _ _ _=>Fp12.Nm.F12 _) (fun _ _ _ _=>qmul_v _ _) (fun _ _=>by kernel_rfl)
def L1:List (Fact Tryz.prog GlobD):=qConj.fact (.con Tryz.func20 rfl (by decide) qConj) ::
 qMul.fact (.con Tryz.func19 rfl (by decide) qMul) ::
 L0
def X1:Cx:=.of [] (tb L1)
theorem X1_ok:CxOk Tryz.prog X1 GlobD:=cx_ok L1 trivial (by kernel_rfl)
theorem qinv_v (a:List Int):F6 (Fp6.hm (v6 (seg 0 36 (F12 (Fp12.kc (v12 a))))) (v6 (F6 (Fp6.hi (v6 (seg 0 36 (F12 (Fp12.km (v12 a) (v12 (F12 (Fp12.kc (v12 a))))))))))))++F6 (Fp6.hm (v6 (seg 36 36 (F12 (Fp12.kc (v12 a))))) (v6 (F6 (Fp6.hi (v6 (seg 0 36 (F12 (Fp12.km (v12 a) (v12 (F12 (Fp12.kc (v12 a))))))))))))=F12 (Fp12.ki (v12 a)):=by
 rw[kr Fp12.km_congr,seg_F12a,seg_F12a,seg_F12b,hi_]
 simp only[hml,hmr]
 rfl
theorem qInv:Con Tryz.prog GlobD 21 [72] (f1 fun a=>W 72 (F12 (Fp12.ki (v12 a)))):=.w1 X1_ok GlobD.keep Tryz.func21 9 (fun _ _=>Fp12.Nm.F12 _) (fun _ _=>qinv_v _) (fun _=>by kernel_rfl)
theorem qOne:Con Tryz.prog GlobD 10 [] (f0 (W 72 O72)):=.of0 X0_ok GlobD.keep Tryz.func10 9 [] (zs:=W 72 O72) (obs:=[]) (w_ok nm_O72) rfl ⟨rfl,trivial⟩ (by kernel_rfl)
theorem lConj:Con Tryz.prog GlobD 15 [72] (f1 fun a=>W 72 (F12 (Fp12.kc (v12 a)))):=.w1 X0_ok GlobD.keep Tryz.func15 9 (fun _ _=>Fp12.Nm.F12 _) (fun _ _=>rfl) (fun _=>by kernel_rfl)
def L2:List (Fact Tryz.prog GlobD):=⟨60,entI 60 X0 9,.inline X0_ok GlobD.keep Tryz.func60 rfl (by decide)⟩ ::
 L0
def X2:Cx:=.of [] (tb L2)
theorem X2_ok:CxOk Tryz.prog X2 GlobD:=cx_ok L2 trivial (by kernel_rfl)
theorem lmul_v (a b:List Int):F6 (Fp6.ha (v6 (F6 (Fp6.hm (v6 (seg 0 36 a)) (v6 (seg 0 36 b))))) (v6 (F6 (Fp6.hv (v6 (F6 (Fp6.hm (v6 (seg 36 36 a)) (v6 (seg 36 36 b)))))))))++F6 (Fp6.hs (v6 (F6 (Fp6.hm (v6 (F6 (Fp6.ha (v6 (seg 0 36 a)) (v6 (seg 36 36 a))))) (v6 (F6 (Fp6.ha (v6 (seg 0 36 b)) (v6 (seg 36 36 b)))))))) (v6 (F6 (Fp6.ha (v6 (F6 (Fp6.hm (v6 (seg 0 36 a)) (v6 (seg 0 36 b))))) (v6 (F6 (Fp6.hm (v6 (seg 36 36 a)) (v6 (seg 36 36 b)))))))))=F12 (Fp12.km (v12 a) (v12 b)):=by
 simp only[hal,har,hsl,hsr,hml,hmr,hv_]
 exact f12 rfl (hcross _ _ _ _)
theorem lMul:Con Tryz.prog GlobD 29 [72,72] (f2 fun a b=>W 72 (F12 (Fp12.km (v12 a) (v12 b)))):=.w2 X2_ok GlobD.keep Tryz.func29 9 (fun _ _ _ _=>Fp12.Nm.F12 _) (fun _ _ _ _=>lmul_v _ _) (fun _ _=>by kernel_rfl)
theorem linv_v (a:List Int):F6 (Fp6.hm (v6 (seg 0 36 a)) (v6 (F6 (Fp6.hi (v6 (F6 (Fp6.hs (v6 (F6 (Fp6.hm (v6 (seg 0 36 a)) (v6 (seg 0 36 a))))) (v6 (F6 (Fp6.hv (v6 (F6 (Fp6.hm (v6 (seg 36 36 a)) (v6 (seg 36 36 a)))))))))))))))++F6 (Fp6.hm (v6 (F6 (Fp6.hn (v6 (seg 36 36 a))))) (v6 (F6 (Fp6.hi (v6 (F6 (Fp6.hs (v6 (F6 (Fp6.hm (v6 (seg 0 36 a)) (v6 (seg 0 36 a))))) (v6 (F6 (Fp6.hv (v6 (F6 (Fp6.hm (v6 (seg 36 36 a)) (v6 (seg 36 36 a)))))))))))))))=F12 (Fp12.ki (v12 a)):=by
 simp only[hal,har,hsl,hsr,hml,hmr,hv_]
 simp only[hmi]
 refine f12 ?_ ?_
 ·show Fp6.hm _ (Fp6.hi _)=Fp6.hm _ (Fp6.hi (Fp12.km (v12 a) (Fp12.kc (v12 a))).1)
  rw[Fp12.km_kc]
  rfl
 ·show Fp6.hm _ (Fp6.hi _)=Fp6.hm _ (Fp6.hi (Fp12.km (v12 a) (Fp12.kc (v12 a))).1)
  rw[Fp12.km_kc]
  rfl
theorem lInv:Con Tryz.prog GlobD 16 [72] (f1 fun a=>W 72 (F12 (Fp12.ki (v12 a)))):=.w1 X0_ok GlobD.keep Tryz.func16 9 (fun _ _=>Fp12.Nm.F12 _) (fun _ _=>linv_v _) (fun _=>by kernel_rfl)
def L3:List (Fact Tryz.prog GlobD):=lConj.fact (.con Tryz.func15 rfl (by decide) lConj) ::
 lMul.fact (.con Tryz.func29 rfl (by decide) lMul) ::
 lInv.fact (.con Tryz.func16 rfl (by decide) lInv) ::
 L1
def X3:Cx:=.of [(30,72)] (tb L3)
theorem X3_ok:CxOk Tryz.prog X3 GlobD:=cx_ok L3 ⟨⟨eqokk,gdk⟩,trivial⟩ (by kernel_rfl)
end S10
namespace Pts
set_option maxRecDepth 100000
open Go Go.RowKit Reg Base Limb Fp2 Ec Ring
section
variable {α:Type} (F:Go.Proofs.YtjamcbjghffboaaGreatDoor.Ec.Fd α)
end
section
variable {α:Type} (K:Nk α) {c0 c2 c3:List Int} (h2:K.va c2=K.F.int 2) (h3:K.va c3=K.F.int 3) (h0:K.wo (K.F.int 0)=c0) {x y:List Int}
end
end Pts
namespace S15D
open Go Go.RowKit Reg Base Limb Sx Fp Fp2 Fp6 Fp12 Ec Pts
def LN (s x y:Fp2.G)(p q:Int):Fp12.K:=((gs (gm s x) y,gn (gk s p),(0,0)),((0,0),(q,0),(0,0)))
def lnW (s x y:List Int):List Int:=F12 (LN (v2 s) (v2 (seg 0 12 x)) (v2 (seg 12 12 x)) (num (seg 0 6 y)) (num (seg 6 6 y)))
def VN (x:Fp2.G)(p:Int):Fp12.K:=((x,(-p,0),(0,0)),((0,0),(0,0),(0,0)))
def vtW (x y:List Int):List Int:=F12 (VN (v2 (seg 0 12 x)) (num (seg 0 6 y)))
abbrev sl (x y:List Int):List Int×Bool:=slF G2K.K2 G2K.c0 G2K.c2 G2K.c3 x y
def stW (x:List Int)(b:Bool)(y:List Int)(c:Bool)(z:List Int)(d:Bool):List Int:=
 if (d||b||c)=true then O72 else if (sl x y).2=true then lnW (sl x y).1 x z else vtW x z
theorem nm_stW (x:List Int)(b:Bool)(y:List Int)(c:Bool)(z:List Int)(d:Bool):Nm 72 (stW x b y c z d):=by
 unfold stW
 split
 ·exact nm_O72
 ·split
  ·exact Fp12.Nm.F12 _
  ·exact Fp12.Nm.F12 _
theorem F2_z:F2 (0,0)=List.replicate 12 0:=by decide +kernel
theorem fe_z:Fp.fe 0=List.replicate 6 0:=by decide +kernel
theorem F2_r (p:Int):F2 (p,0)=Fp.fe p++List.replicate 6 0:=by rw[F2,fe_z]
theorem ln_raw (s x y:List Int):F2 (gs (v2 (F2 (gm (v2 s) (v2 (seg 0 12 x))))) (v2 (seg 12 12 x)))++F2 (gn (v2 (F2 (gk (v2 s) (num (seg 0 6 y))))))++List.replicate 12 0++List.replicate 12 0++Fp.fe (num (seg 6 6 y))++List.replicate 6 0++List.replicate 12 0=lnW s x y:=by
 rw[F2_eq (gs_congr (v2_F2 (gm (v2 s) (v2 (seg 0 12 x)))) E2.rfl),F2_eq (gn_congr (v2_F2 (gk (v2 s) (num (seg 0 6 y)))))]
 show _=(F2 _++F2 _++F2 (0,0))++(F2 (0,0)++F2 (_,0)++F2 (0,0))
 rw[F2_z,F2_r]
 simp only[List.append_assoc]
 rfl
theorem vt_raw (x y:List Int):F2 (v2 (seg 0 12 x))++Fp.fe (-num (seg 0 6 y))++List.replicate 6 0++List.replicate 12 0++List.replicate 36 0=vtW x y:=by
 show _=(F2 _++F2 (_,0)++F2 (0,0))++(F2 (0,0)++F2 (0,0)++F2 (0,0))
 rw[F2_z,F2_r,show List.replicate 36 (0:Int)=List.replicate 12 0++List.replicate 12 0++List.replicate 12 0 from rfl]
 simp only[List.append_assoc]
 rfl
section
variable {x y z:List Int} {b c d:Bool}
theorem st_one (h:(d||b||c)=true):stW x b y c z d=O72:=if_pos h
theorem st_vt (h:(sl x y).2=false):stW x false y false z false=vtW x z:=(if_neg (by decide)).trans (if_neg (by rw[h];decide))
theorem st_ln (h:(sl x y).2=true):stW x false y false z false=lnW (sl x y).1 x z:=(if_neg (by decide)).trans (if_pos h)
end
theorem w_den {n:Nat}{x:List Int}{gs:List Nat}:(AV.agg [.nums n x]).den gs=.agg (vals .u64 x):=den_nums
def stA (x:List Int)(b:Bool)(y:List Int)(c:Bool)(z:List Int)(d:Bool):AV:=.tup [.agg [.nums 24 (ptW G2K.K2 (addP G2K.K2.F (ptv G2K.K2 x b) (ptv G2K.K2 y c))),.nm (.bl (ptB (addP G2K.K2.F (ptv G2K.K2 x b) (ptv G2K.K2 y c))))],.agg [.nums 72 (stW x b y c z d)]]
theorem stA_ok (x:List Int)(b:Bool)(y:List Int)(c:Bool)(z:List Int)(d:Bool)(n:Nat):(stA x b y c z d).Ok n:=⟨⟨nm_ptW G2K.K2 _,trivial,trivial⟩,⟨nm_stW _ _ _ _ _ _,trivial⟩,trivial⟩
theorem stA_den (x:List Int)(b:Bool)(y:List Int)(c:Bool)(z:List Int)(d:Bool)(gs:List Nat):(stA x b y c z d).den gs=(stA x b y c z d).den []:=rfl
abbrev dk (k:Nat):Int:=15132376222941642752/2^(62-(k:Int)).toNat
def bt (k:Nat):Bool:=decide (dk k%2=1)
theorem dk_in (k:Nat):0<=dk k/\dk k<=15132376222941642752:=⟨Int.ediv_nonneg (by decide) (Int.le_of_lt (Int.pow_pos (by decide))),Int.ediv_le_self _ (by decide)⟩
theorem bt_and (k:Nat):bits .and .u64 (dk k) 1=dk k%2:=and_one (dk_in k).1 (Int.le_trans (dk_in k).2 (by decide))
abbrev sqW (f:List Int):List Int:=F12 (Fp12.km (v12 f) (v12 f))
abbrev muW (f l:List Int):List Int:=F12 (Fp12.km (v12 f) (v12 l))
def ml (x y:List Int):Nat->List Int×Pt Fp2.G
 |0=>(O72,ptv G2K.K2 y false)
 |k+1=>
  let s:=ml x y k
  let f1:=muW (sqW s.1) (stW (ptW G2K.K2 s.2) (ptB s.2) (ptW G2K.K2 s.2) (ptB s.2) x false)
  let t1:=addP G2K.K2.F (vo G2K.K2 s.2) (vo G2K.K2 s.2)
  if bt k=true then (muW f1 (stW (ptW G2K.K2 t1) (ptB t1) y false x false),addP G2K.K2.F (vo G2K.K2 t1) (ptv G2K.K2 y false)) else (f1,t1)
theorem ml_t {x y:List Int}{k:Nat}(h:bt k=true):ml x y (k+1)=(muW (muW (sqW (ml x y k).1) (stW (ptW G2K.K2 (ml x y k).2) (ptB (ml x y k).2) (ptW G2K.K2 (ml x y k).2) (ptB (ml x y k).2) x false)) (stW (ptW G2K.K2 (addP G2K.K2.F (vo G2K.K2 (ml x y k).2) (vo G2K.K2 (ml x y k).2))) (ptB (addP G2K.K2.F (vo G2K.K2 (ml x y k).2) (vo G2K.K2 (ml x y k).2))) y false x false),addP G2K.K2.F (vo G2K.K2 (addP G2K.K2.F (vo G2K.K2 (ml x y k).2) (vo G2K.K2 (ml x y k).2))) (ptv G2K.K2 y false)):=by
 rw[ml]
 exact if_pos h
theorem ml_f {x y:List Int}{k:Nat}(h:bt k=false):ml x y (k+1)=(muW (sqW (ml x y k).1) (stW (ptW G2K.K2 (ml x y k).2) (ptB (ml x y k).2) (ptW G2K.K2 (ml x y k).2) (ptB (ml x y k).2) x false),addP G2K.K2.F (vo G2K.K2 (ml x y k).2) (vo G2K.K2 (ml x y k).2)):=by
 rw[ml]
 exact if_neg (by rw[h];decide)
def lpW (x:List Int)(b:Bool)(y:List Int)(c:Bool):List Int:=if (onB G1K.K1 (G1K.K1.F.int 4) (ptv G1K.K1 x b)&&onB G2K.K2 G2K.bb (ptv G2K.K2 y c))=true then (if (b||c)=true then O72 else F12 (Fp12.kc (v12 (ml x y 63).1))) else List.replicate 72 0
theorem nm_lpW (x:List Int)(b:Bool)(y:List Int)(c:Bool):Nm 72 (lpW x b y c):=by
 unfold lpW
 split
 ·split
  ·exact nm_O72
  ·exact Fp12.Nm.F12 _
 ·exact⟨rfl,words_zeros 72⟩
def lpA (x:List Int)(b:Bool)(y:List Int)(c:Bool):AV:=.tup [.agg [.nums 72 (lpW x b y c)],.num .i64 (if (onB G1K.K1 (G1K.K1.F.int 4) (ptv G1K.K1 x b)&&onB G2K.K2 G2K.bb (ptv G2K.K2 y c))=true then 0 else 120)]
section
variable {x y:List Int} {b c:Bool}
theorem lp_off (h:(onB G1K.K1 (G1K.K1.F.int 4) (ptv G1K.K1 x b)&&onB G2K.K2 G2K.bb (ptv G2K.K2 y c))=false):lpA x b y c=.tup [.agg [.nums 72 (List.replicate 72 0)],.num .i64 120]:=by
 rw[lpA,lpW,if_neg (by rw[h];decide),if_neg (by rw[h];decide)]
theorem lp_one (h:(onB G1K.K1 (G1K.K1.F.int 4) (ptv G1K.K1 x b)&&onB G2K.K2 G2K.bb (ptv G2K.K2 y c))=true)(h2:(b||c)=true):lpA x b y c=.tup [.agg [.nums 72 O72],.num .i64 0]:=by
 rw[lpA,lpW,if_pos h,if_pos h,if_pos h2]
theorem lp_go (h:(onB G1K.K1 (G1K.K1.F.int 4) (ptv G1K.K1 x false)&&onB G2K.K2 G2K.bb (ptv G2K.K2 y false))=true):lpA x false y false=.tup [.agg [.nums 72 (F12 (Fp12.kc (v12 (ml x y 63).1)))],.num .i64 0]:=by
 rw[lpA,lpW,if_pos h,if_pos h,if_neg (by decide)]
end
theorem lpA_ok (x:List Int)(b:Bool)(y:List Int)(c:Bool)(n:Nat):(lpA x b y c).Ok n:=⟨⟨nm_lpW _ _ _ _,trivial⟩,trivial,trivial⟩
def oL (f:List Int->List Int->Bool->List Int->Bool->AV):List AA->AV
 |[.w s,.p x b,.p y c]=>f s x b y c
 |_=>.unk
def oS (f:List Int->Bool->List Int->Bool->List Int->Bool->AV):List AA->AV
 |[.p x b,.p y c,.p z d]=>f x b y c z d
 |_=>.unk
def oP (f:List Int->Bool->List Int->Bool->AV):List AA->AV
 |[.p x b,.p y c]=>f x b y c
 |_=>.unk
section
variable {P:Program} {G:World->Prop} {F:FuncId}
theorem conL {f:List Int->List Int->Bool->List Int->Bool->AV}(h0:∀s x b y c n,(f s x b y c).Ok n)(h1:∀s x b y c gs,(f s x b y c).den gs=(f s x b y c).den [])(h:∀s,Nm 12 s->∀x,Nm 24 x->∀b y,Nm 12 y->∀c w,G w->Calls P F #[.agg (vals .u64 s),.agg (vals .u64 x ++ #[.bool b]),.agg (vals .u64 y ++ #[.bool c])] w fun e w'=>e=.returned ((f s x b y c).den [])/\RowKit.Below w.heap.size w w'):ConG P G F [.w 12,.p 24,.p 12] G1K.Pre0 (oL f):=by
 intro l hl _
 match l,hl with
 |[.w s,.p x b,.p y c],⟨hs,hx,hy,_⟩=>
  refine⟨h0 s x b y c,h1 s x b y c,fun w hG vs hv=>?_⟩
  match vs,hv with
  |[r,v,u],⟨hr,hv,hu,_⟩=>
   obtain rfl:=hr
   obtain rfl:=hv
   obtain rfl:=hu
   exact h s hs x hx b y hy c w hG
theorem conS {f:List Int->Bool->List Int->Bool->List Int->Bool->AV}(h0:∀x b y c z d n,(f x b y c z d).Ok n)(h1:∀x b y c z d gs,(f x b y c z d).den gs=(f x b y c z d).den [])(h:∀x,Nm 24 x->∀b y,Nm 24 y->∀c z,Nm 12 z->∀d w,G w->Calls P F #[.agg (vals .u64 x ++ #[.bool b]),.agg (vals .u64 y ++ #[.bool c]),.agg (vals .u64 z ++ #[.bool d])] w fun e w'=>e=.returned ((f x b y c z d).den [])/\RowKit.Below w.heap.size w w'):ConG P G F [.p 24,.p 24,.p 12] G1K.Pre0 (oS f):=by
 intro l hl _
 match l,hl with
 |[.p x b,.p y c,.p z d],⟨hx,hy,hz,_⟩=>
  refine⟨h0 x b y c z d,h1 x b y c z d,fun w hG vs hv=>?_⟩
  match vs,hv with
  |[r,v,u],⟨hr,hv,hu,_⟩=>
   obtain rfl:=hr
   obtain rfl:=hv
   obtain rfl:=hu
   exact h x hx b y hy c z hz d w hG
theorem conP {f:List Int->Bool->List Int->Bool->AV}(h0:∀x b y c n,(f x b y c).Ok n)(h1:∀x b y c gs,(f x b y c).den gs=(f x b y c).den [])(h:∀x,Nm 12 x->∀b y,Nm 24 y->∀c w,G w->Calls P F #[.agg (vals .u64 x ++ #[.bool b]),.agg (vals .u64 y ++ #[.bool c])] w fun e w'=>e=.returned ((f x b y c).den [])/\RowKit.Below w.heap.size w w'):ConG P G F [.p 12,.p 24] G1K.Pre0 (oP f):=by
 intro l hl _
 match l,hl with
 |[.p x b,.p y c],⟨hx,hy,_⟩=>
  refine⟨h0 x b y c,h1 x b y c,fun w hG vs hv=>?_⟩
  match vs,hv with
  |[v,u],⟨hv,hu,_⟩=>
   obtain rfl:=hv
   obtain rfl:=hu
   exact h x hx b y hy c w hG
end
end S15D
namespace S15N
open Go Go.RowKit Reg Base Limb Sx Fp Fp2 Fp6 Fp12 Ec Pts S15D
set_option maxRecDepth 100000
section
variable (s t x y:Fp2.G) (p q:Int)
end
section
variable (s t x y:List Int)
end
section
variable (x y z s:List Int)
abbrev rd (y:List Int):List Int:=ptW G2K.K2 (ptv G2K.K2 y false)
theorem wr_x:wr G2K.K2 (seg 0 12 (rd x))=wr G2K.K2 (seg 0 12 x):=by
 rw[S13R.rx]
 exact red_wo G2K.K2 _
theorem wr_y:wr G2K.K2 (seg 12 12 (rd x))=wr G2K.K2 (seg 12 12 x):=by
 rw[S13R.ry]
 exact red_wo G2K.K2 _
theorem sl_rd:sl (rd x) (rd y)=sl x y:=by
 have e:∀a b:List Int,sl a b=if wr G2K.K2 (seg 0 12 a)=wr G2K.K2 (seg 0 12 b) then (if wr G2K.K2 (seg 12 12 a)=wr G2K.K2 (seg 12 12 b)/\¬wr G2K.K2 (seg 12 12 a)=G2K.c0 then (slTw G2K.K2 G2K.c2 G2K.c3 (wr G2K.K2 (seg 0 12 a)) (wr G2K.K2 (seg 12 12 a)),true) else (List.replicate 12 0,false)) else (slCw G2K.K2 (wr G2K.K2 (seg 0 12 a)) (wr G2K.K2 (seg 12 12 a)) (wr G2K.K2 (seg 0 12 b)) (wr G2K.K2 (seg 12 12 b)),true):=fun a b=>rfl
 rw[e,e,wr_x,wr_x,wr_y,wr_y]
theorem va_x:E2 (v2 (seg 0 12 (rd x))) (v2 (seg 0 12 x)):=by
 rw[S13R.rx]
 exact v2_F2 _
theorem va_y:E2 (v2 (seg 12 12 (rd x))) (v2 (seg 12 12 x)):=by
 rw[S13R.ry]
 exact v2_F2 _
theorem ln_rd:lnW s (rd x) z=lnW s x z:=F12_eq ⟨⟨gs_congr (gm_congr E2.rfl (va_x x)) (va_y x),E2.rfl,E2.rfl⟩,E6.rfl⟩
theorem vt_rd:vtW (rd x) z=vtW x z:=F12_eq ⟨⟨va_x x,E2.rfl,E2.rfl⟩,E6.rfl⟩
theorem st_rd (d:Bool):stW (rd x) false (rd y) false z d=stW x false y false z d:=by
 unfold stW
 rw[sl_rd,ln_rd,vt_rd]
theorem ad_rd:ptW G2K.K2 (addP G2K.K2.F (ptv G2K.K2 y false) (ptv G2K.K2 y false))=ptW G2K.K2 (addP G2K.K2.F (vo G2K.K2 (ptv G2K.K2 y false)) (vo G2K.K2 (ptv G2K.K2 y false)))/\ptB (addP G2K.K2.F (ptv G2K.K2 y false) (ptv G2K.K2 y false))=ptB (addP G2K.K2.F (vo G2K.K2 (ptv G2K.K2 y false)) (vo G2K.K2 (ptv G2K.K2 y false))):=
 out_eq G2K.K2 (eqP_symm G2K.K2.F (add_v G2K.K2 (eqP_refl G2K.K2.F _) (eqP_refl G2K.K2.F _)))
end
section
variable {x y z:List Int}
end
end S15N
namespace S15R
open Go Go.RowKit Reg Base Limb Sx Fp Fp2 Fp6 Fp12 Ec Pts S15D
def LN9:List (Fact Tryz.prog GlobD):=S7.qNeg.fact (.con Tryz.func76 rfl (by decide) S7.qNeg) ::
 []
def XN9:Cx:=.of [] (tb LN9)
theorem XN9_ok:CxOk Tryz.prog XN9 GlobD:=cx_ok LN9 trivial (by kernel_rfl)
theorem rNeg9:Con Tryz.prog GlobD 43 [36] (f1 fun a=>W 36 (F6 (Fp6.hn (v6 a)))):=.w1 XN9_ok GlobD.keep Tryz.func43 9 (fun _ _=>Fp6.Nm.F6 _) (fun _ _=>rfl) (fun _=>by kernel_rfl)
def LC:List (Fact Tryz.prog GlobD):=S9.qReduce.fact (.con Tryz.func42 rfl (by decide) S9.qReduce) ::
 rNeg9.fact (.con Tryz.func43 rfl (by decide) rNeg9) ::
 []
def XC:Cx:=.of [] (tb LC)
theorem XC_ok:CxOk Tryz.prog XC GlobD:=cx_ok LC trivial (by kernel_rfl)
theorem qConj:Con Tryz.prog GlobD 20 [72] (f1 fun a=>W 72 (F12 (Fp12.kc (v12 a)))):=.w1 XC_ok GlobD.keep Tryz.func20 9 (fun _ _=>Fp12.Nm.F12 _) (fun _ _=>rfl) (fun _=>by kernel_rfl)
def L0:List (Fact Tryz.prog GlobD):=S7.qReduce.fact (.con Tryz.func75 rfl (by decide) S7.qReduce) ::
 S7.qSub.fact (.con Tryz.func77 rfl (by decide) S7.qSub) ::
 S7.qNeg.fact (.con Tryz.func76 rfl (by decide) S7.qNeg) ::
 S7.qMul.fact (.con Tryz.func47 rfl (by decide) S7.qMul) ::
 S7.qScale.fact (.con Tryz.func128 rfl (by decide) S7.qScale) ::
 S7.rReduce.fact (.con Tryz.func83 rfl (by decide) S7.rReduce) ::
 S7.rNeg.fact (.con Tryz.func84 rfl (by decide) S7.rNeg) ::
 S10.qOne.fact (.con Tryz.func10 rfl (by decide) S10.qOne) ::
 S10.qMul.fact (.con Tryz.func19 rfl (by decide) S10.qMul) ::
 qConj.fact (.con Tryz.func20 rfl (by decide) qConj) ::
 []
def T0:List (FuncId×Ent2):=[(97,entG [.p 24,.p 24] S13R.PreFF (G2K.o2 fun x _ y _=>.tup [.agg [.nums 12 (slF G2K.K2 G2K.c0 G2K.c2 G2K.c3 x y).1],.bl (slF G2K.K2 G2K.c0 G2K.c2 G2K.c3 x y).2])),(85,entG [.p 12] G1K.Pre0 (G1K.o1 fun x b=>G1K.PA (ptv G1K.K1 x b))),(52,entG [.p 12] G1K.Pre0 (G1K.o1 fun x b=>.bl (onB G1K.K1 (G1K.K1.F.int 4) (ptv G1K.K1 x b)))),(54,entG [.p 24] G2K.Pre0 (G2K.o1 fun x b=>G2K.PA (ptv G2K.K2 x b))),(53,entG [.p 24] G2K.Pre0 (G2K.o1 fun x b=>.bl (onB G2K.K2 G2K.bb (ptv G2K.K2 x b)))),(96,entG [.p 24,.p 24] G2K.Pre0 (G2K.o2 fun x b y c=>G2K.PA (addP G2K.K2.F (ptv G2K.K2 x b) (ptv G2K.K2 y c))))]
theorem T0_ok:TOk2 Tryz.prog GlobD T0:=⟨.conG Tryz.func97 rfl (by decide) S13R.qSlope,.conG Tryz.func85 rfl (by decide) S12R.qReduce,.conG Tryz.func52 rfl (by decide) S12R.qOn,.conG Tryz.func54 rfl (by decide) S13R.qReduce,.conG Tryz.func53 rfl (by decide) S13R.qOn,.conG Tryz.func96 rfl (by decide) S13R.qAdd,trivial⟩
def X0:Cx:=((Cx.of [(24,6),(26,12)] (tb L0)).eqs [(35,12),(37,24)]).more T0
theorem X0_ok:CxOk Tryz.prog X0 GlobD:=((cx_ok (E:=[(24,6),(26,12)]) L0 ⟨⟨G1K.eqF,G1K.gdF⟩,⟨G2K.eqF,G2K.gdF⟩,trivial⟩ (by kernel_rfl)).eqs (EM:=[(35,12),(37,24)]) ⟨⟨G1K.eqG,G1K.gdG⟩,⟨G2K.eqG,G2K.gdG⟩,trivial⟩).more T0_ok
theorem qLine:ConG Tryz.prog GlobD 98 [.w 12,.p 24,.p 12] G1K.Pre0 (S15D.oL fun s x b y c=>.agg [.nums 72 (S15D.lnW s x y)]):=conL (fun s x b y c n=>⟨Fp12.Nm.F12 _,trivial⟩) (fun _ _ _ _ _ _=>rfl) (fun s hs x hx b y hy c w hG=>fn_outS (N:=9) X0_ok GlobD.keep Tryz.func98 [] (fun s hs=>by cases hs) (G1K.noSS hG) (args:=[.agg [.nums 12 s],.agg [.nums 24 x,.nm (.bl b)],.agg [.nums 12 y,.nm (.bl c)]]) (q:=[]) (v:=(.agg [.nums 72 (F2 (gs (v2 (F2 (gm (v2 s) (v2 (seg 0 12 x))))) (v2 (seg 12 12 x)))++F2 (gn (v2 (F2 (gk (v2 s) (num (seg 0 6 y))))))++List.replicate 12 0++List.replicate 12 0++Fp.fe (num (seg 6 6 y))++List.replicate 6 0++List.replicate 12 0)])) (obs:=[]) 1 (by kernel_rfl) (trivial) (okA3 ⟨hs,trivial⟩ ⟨hx,trivial,trivial⟩ ⟨hy,trivial,trivial⟩) (by rw[ln_raw]) (by simp only[List.map_cons,List.map_nil,G1K.p_den,G2K.p_den,S15D.w_den];try rfl))
def T1:List (FuncId×Ent2):=[(98,entG [.w 12,.p 24,.p 12] G1K.Pre0 (S15D.oL fun s x b y c=>.agg [.nums 72 (S15D.lnW s x y)])),(97,entG [.p 24,.p 24] S13R.PreFF (G2K.o2 fun x _ y _=>.tup [.agg [.nums 12 (slF G2K.K2 G2K.c0 G2K.c2 G2K.c3 x y).1],.bl (slF G2K.K2 G2K.c0 G2K.c2 G2K.c3 x y).2])),(96,entG [.p 24,.p 24] G2K.Pre0 (G2K.o2 fun x b y c=>G2K.PA (addP G2K.K2.F (ptv G2K.K2 x b) (ptv G2K.K2 y c))))]
theorem T1_ok:TOk2 Tryz.prog GlobD T1:=⟨.conG Tryz.func98 rfl (by decide) qLine,.conG Tryz.func97 rfl (by decide) S13R.qSlope,.conG Tryz.func96 rfl (by decide) S13R.qAdd,trivial⟩
def X1:Cx:=((Cx.of [(24,6),(26,12)] (tb L0)).eqs [(35,12),(37,24)]).more T1
theorem X1_ok:CxOk Tryz.prog X1 GlobD:=((cx_ok (E:=[(24,6),(26,12)]) L0 ⟨⟨G1K.eqF,G1K.gdF⟩,⟨G2K.eqF,G2K.gdF⟩,trivial⟩ (by kernel_rfl)).eqs (EM:=[(35,12),(37,24)]) ⟨⟨G1K.eqG,G1K.gdG⟩,⟨G2K.eqG,G2K.gdG⟩,trivial⟩).more T1_ok
theorem qStep:ConG Tryz.prog GlobD 55 [.p 24,.p 24,.p 12] G1K.Pre0 (S15D.oS fun x b y c z d=>S15D.stA x b y c z d):=conS stA_ok stA_den (fun x hx b y hy c z hz d w hG=>by
 cases d
 ·cases b
  ·cases c
   ·cases e:(sl x y).2
    ·exact fn_outS (N:=9) X1_ok GlobD.keep Tryz.func55 [] (fun s hs=>by cases hs) (G1K.noSS hG) (args:=[.agg [.nums 24 x,.nm (.bl false)],.agg [.nums 24 y,.nm (.bl false)],.agg [.nums 12 z,.nm (.bl false)]]) (q:=[false,false,false,false]) (v:=(.tup [.agg [.nums 24 (ptW G2K.K2 (addP G2K.K2.F (ptv G2K.K2 x false) (ptv G2K.K2 y false))),.nm (.bl (ptB (addP G2K.K2.F (ptv G2K.K2 x false) (ptv G2K.K2 y false))))],.agg [.nums 72 (F2 (v2 (seg 0 12 x))++Fp.fe (-num (seg 0 6 z))++List.replicate 6 0++List.replicate 12 0++List.replicate 36 0)]])) (obs:=[false=false,false=false,false=false,false=false,false=false,(sl x y).2=false]) 1 (by kernel_rfl) (hp (rfl) (hp (rfl) (hp (rfl) (hp (rfl) (hp (rfl) (hp (e) trivial)))))) (okA3 ⟨hx,trivial,trivial⟩ ⟨hy,trivial,trivial⟩ ⟨hz,trivial,trivial⟩) (by rw[vt_raw,stA,st_vt e]) (by simp only[List.map_cons,List.map_nil,G1K.p_den,G2K.p_den,S15D.w_den];try rfl)
    ·exact fn_outS (N:=9) X1_ok GlobD.keep Tryz.func55 [] (fun s hs=>by cases hs) (G1K.noSS hG) (args:=[.agg [.nums 24 x,.nm (.bl false)],.agg [.nums 24 y,.nm (.bl false)],.agg [.nums 12 z,.nm (.bl false)]]) (q:=[false,false,false,true]) (v:=(.tup [.agg [.nums 24 (ptW G2K.K2 (addP G2K.K2.F (ptv G2K.K2 x false) (ptv G2K.K2 y false))),.nm (.bl (ptB (addP G2K.K2.F (ptv G2K.K2 x false) (ptv G2K.K2 y false))))],.agg [.nums 72 (lnW (sl x y).1 x z)]])) (obs:=[false=false,false=false,false=false,false=false,false=false,(sl x y).2=true]) 1 (by kernel_rfl) (hp (rfl) (hp (rfl) (hp (rfl) (hp (rfl) (hp (rfl) (hp (e) trivial)))))) (fun v hv=>by
   simp only[List.mem_cons,List.not_mem_nil,or_false] at hv
   rcases hv with rfl|rfl|rfl
   ·exact⟨hx,trivial,trivial⟩
   ·exact⟨hy,trivial,trivial⟩
   ·exact⟨hz,trivial,trivial⟩) (by rw[stA,st_ln e]) (by simp only[List.map_cons,List.map_nil,G1K.p_den,G2K.p_den,S15D.w_den];try rfl)
   ·exact fn_outS (N:=9) X1_ok GlobD.keep Tryz.func55 [] (fun s hs=>by cases hs) (G1K.noSS hG) (args:=[.agg [.nums 24 x,.nm (.bl false)],.agg [.nums 24 y,.nm (.bl true)],.agg [.nums 12 z,.nm (.bl false)]]) (q:=[false,false,true]) (v:=(.tup [.agg [.nums 24 (ptW G2K.K2 (addP G2K.K2.F (ptv G2K.K2 x false) (ptv G2K.K2 y true))),.nm (.bl (ptB (addP G2K.K2.F (ptv G2K.K2 x false) (ptv G2K.K2 y true))))],.agg [.nums 72 (O72)]])) (obs:=[false=false,false=false,true=true]) 1 (by kernel_rfl) (hp (rfl) (hp (rfl) (hp (rfl) trivial))) (okA3 ⟨hx,trivial,trivial⟩ ⟨hy,trivial,trivial⟩ ⟨hz,trivial,trivial⟩) (by rw[stA,st_one rfl]) (by simp only[List.map_cons,List.map_nil,G1K.p_den,G2K.p_den,S15D.w_den];try rfl)
  ·exact fn_outS (N:=9) X1_ok GlobD.keep Tryz.func55 [] (fun s hs=>by cases hs) (G1K.noSS hG) (args:=[.agg [.nums 24 x,.nm (.bl true)],.agg [.nums 24 y,.nm (.bl c)],.agg [.nums 12 z,.nm (.bl false)]]) (q:=[false,true]) (v:=(.tup [.agg [.nums 24 (ptW G2K.K2 (addP G2K.K2.F (ptv G2K.K2 x true) (ptv G2K.K2 y c))),.nm (.bl (ptB (addP G2K.K2.F (ptv G2K.K2 x true) (ptv G2K.K2 y c))))],.agg [.nums 72 (O72)]])) (obs:=[false=false,true=true]) 1 (by kernel_rfl) (hp (rfl) (hp (rfl) trivial)) (fun v hv=>by
   simp only[List.mem_cons,List.not_mem_nil,or_false] at hv
   rcases hv with rfl|rfl|rfl
   ·exact⟨hx,trivial,trivial⟩
   ·exact⟨hy,trivial,trivial⟩
   ·exact⟨hz,trivial,trivial⟩) (by rw[stA,st_one rfl]) (by simp only[List.map_cons,List.map_nil,G1K.p_den,G2K.p_den,S15D.w_den];try rfl)
 ·exact fn_outS (N:=9) X1_ok GlobD.keep Tryz.func55 [] (fun s hs=>by cases hs) (G1K.noSS hG) (args:=[.agg [.nums 24 x,.nm (.bl b)],.agg [.nums 24 y,.nm (.bl c)],.agg [.nums 12 z,.nm (.bl true)]]) (q:=[true]) (v:=(.tup [.agg [.nums 24 (ptW G2K.K2 (addP G2K.K2.F (ptv G2K.K2 x b) (ptv G2K.K2 y c))),.nm (.bl (ptB (addP G2K.K2.F (ptv G2K.K2 x b) (ptv G2K.K2 y c))))],.agg [.nums 72 (O72)]])) (obs:=[true=true]) 1 (by kernel_rfl) (hp (rfl) trivial) (okA3 ⟨hx,trivial,trivial⟩ ⟨hy,trivial,trivial⟩ ⟨hz,trivial,trivial⟩) (by rw[stA,st_one rfl]) (by simp only[List.map_cons,List.map_nil,G1K.p_den,G2K.p_den,S15D.w_den];try rfl))
def T2:List (FuncId×Ent2):=[(55,entG [.p 24,.p 24,.p 12] G1K.Pre0 (S15D.oS fun x b y c z d=>S15D.stA x b y c z d)),(52,entG [.p 12] G1K.Pre0 (G1K.o1 fun x b=>.bl (onB G1K.K1 (G1K.K1.F.int 4) (ptv G1K.K1 x b)))),(54,entG [.p 24] G2K.Pre0 (G2K.o1 fun x b=>G2K.PA (ptv G2K.K2 x b))),(53,entG [.p 24] G2K.Pre0 (G2K.o1 fun x b=>.bl (onB G2K.K2 G2K.bb (ptv G2K.K2 x b))))]
theorem T2_ok:TOk2 Tryz.prog GlobD T2:=⟨.conG Tryz.func55 rfl (by decide) qStep,.conG Tryz.func52 rfl (by decide) S12R.qOn,.conG Tryz.func54 rfl (by decide) S13R.qReduce,.conG Tryz.func53 rfl (by decide) S13R.qOn,trivial⟩
def X2:Cx:=((Cx.of [(24,6),(26,12)] (tb L0)).eqs [(35,12),(37,24)]).more T2
theorem X2_ok:CxOk Tryz.prog X2 GlobD:=((cx_ok (E:=[(24,6),(26,12)]) L0 ⟨⟨G1K.eqF,G1K.gdF⟩,⟨G2K.eqF,G2K.gdF⟩,trivial⟩ (by kernel_rfl)).eqs (EM:=[(35,12),(37,24)]) ⟨⟨G1K.eqG,G1K.gdG⟩,⟨G2K.eqG,G2K.gdG⟩,trivial⟩).more T2_ok
abbrev XM (H:List (Nat×Ev)):Cx:=X2.sym (fun _ _ _=>False) H
theorem XM_ok (H:List (Nat×Ev)):CxB Tryz.prog (XM H) GlobD:=X2_ok.toCxB.sym (fun u h=>h) (fun _ _ _ h=>h.elim) H
section
variable (x y f tw:List Int) (tb:Bool)
def b5:List Bk:=[(35,[.nums 12 x,.nm (.bl false)]),(37,[.nums 24 y,.nm (.bl false)]),(30,[.nums 72 (List.replicate 72 0)]),(30,[.nums 72 f]),(37,[.nums 24 tw,.nm (.bl tb)])]
def m1 (k:Nat):St:=⟨mkSl 71 [(2,.ptr 0 0),(3,.ptr 1 0),(4,.ptr 2 0),(8,.ptr 3 0),(9,.ptr 4 0),(10,.num .i64 (62-(k:Int)))],b5 x y f tw tb⟩
def m1e:St:=⟨mkSl 71 [(4,.ptr 2 0),(8,.ptr 3 0)],b5 x y f tw tb⟩
end
section
variable {x y:List Int} {S:Nat} {w:World}
abbrev mk1 (x y:List Int)(k:Nat):St:=m1 x y (ml x y k).1 (ptW G2K.K2 (ml x y k).2) (ptB (ml x y k).2) k
abbrev mke (x y:List Int):St:=m1e x y (ml x y 63).1 (ptW G2K.K2 (ml x y 63).2) (ptB (ml x y 63).2)
theorem does (hG:∀u,RowKit.Below S w u->GlobD u)(c:Code):Does Tryz.prog S 0 w c (evalC Tryz.prog (XM []) 0 9 c):=code_ok (XM_ok []) hG c (fun _ _ _ h=>by rw[hooked_nil] at h;cases h)
theorem rndf {k:Nat}(hk:k<63)(h2:bt k=false)(hG:∀u,RowKit.Below S w u->GlobD u):Goes Tryz.prog S 0 w (lpc Tryz.f27 0) (mk1 x y k) .nrm (mk1 x y (k+1)):=by
 have hd:=dk_in k
 have hand:=bt_and k
 have h3:qb false (bits .and .u64 (dk k) 1=1):=by
  rw[hand]
  exact (of_decide_eq_false h2:¬dk k%2=1)
 exact (does hG _).goes [true,false] (ps:=[62-(k:Int)-1=62-((k+1:Nat):Int),[Sg.nums 12 x,Sg.nm (NV.bl false)]=[Sg.nums 12 x,Sg.nm (NV.bl false)],[Sg.nums 24 y,Sg.nm (NV.bl false)]=[Sg.nums 24 y,Sg.nm (NV.bl false)],List.replicate 72 (0:Int)=List.replicate 72 0,muW (sqW (ml x y k).1) (stW (ptW G2K.K2 (ml x y k).2) (ptB (ml x y k).2) (ptW G2K.K2 (ml x y k).2) (ptB (ml x y k).2) x false)=(ml x y (k+1)).1,[Sg.nums 24 (ptW G2K.K2 (addP G2K.K2.F (ptv G2K.K2 (ptW G2K.K2 (ml x y k).2) (ptB (ml x y k).2)) (ptv G2K.K2 (ptW G2K.K2 (ml x y k).2) (ptB (ml x y k).2)))),Sg.nm (NV.bl (ptB (addP G2K.K2.F (ptv G2K.K2 (ptW G2K.K2 (ml x y k).2) (ptB (ml x y k).2)) (ptv G2K.K2 (ptW G2K.K2 (ml x y k).2) (ptB (ml x y k).2)))))]=[Sg.nums 24 (ptW G2K.K2 ((ml x y (k+1)).2)),Sg.nm (NV.bl (ptB ((ml x y (k+1)).2)))],qb true (0<=62-(k:Int)),IntKind.u64.wrap (62-(k:Int))=62-(k:Int),rng .u64 (62-(k:Int)),0<=62-(k:Int)/\62-(k:Int)<((64:Nat):Int),rng .u64 (15132376222941642752/2^(62-(k:Int)).toNat),rng .u64 (bits .and .u64 (15132376222941642752/2^(62-(k:Int)).toNat) 1),qb false (bits .and .u64 (15132376222941642752/2^(62-(k:Int)).toNat) 1=1),IntKind.i64.wrap (62-(k:Int)-1)=62-(k:Int)-1]) (by kernel_rfl) (hp (by omega) (hp (rfl) (hp (rfl) (hp (rfl) (hp (by rw[ml_f h2]) (hp (by rw[ml_f h2]) (hp ((by omega:0<=62-(k:Int))) (hp (IntWalk.u64_in _ (by omega)) (hp ((by omega:0<=62-(k:Int)/\62-(k:Int)<18446744073709551616)) (hp (by omega) (hp ((by omega:0<=dk k/\dk k<18446744073709551616)) (hp (hand▸(by omega:0<=dk k%2/\dk k%2<18446744073709551616)) (hp (h3) (hp (IntWalk.i64_in _ (by omega)) trivial)))))))))))))) (by kernel_rfl)
theorem rndt {k:Nat}(hk:k<63)(h2:bt k=true)(hG:∀u,RowKit.Below S w u->GlobD u):Goes Tryz.prog S 0 w (lpc Tryz.f27 0) (mk1 x y k) .nrm (mk1 x y (k+1)):=by
 have hd:=dk_in k
 have hand:=bt_and k
 have h3:qb true (bits .and .u64 (dk k) 1=1):=by
  rw[hand]
  exact (of_decide_eq_true h2:dk k%2=1)
 exact (does hG _).goes [true,true] (ps:=[62-(k:Int)-1=62-((k+1:Nat):Int),[Sg.nums 12 x,Sg.nm (NV.bl false)]=[Sg.nums 12 x,Sg.nm (NV.bl false)],[Sg.nums 24 y,Sg.nm (NV.bl false)]=[Sg.nums 24 y,Sg.nm (NV.bl false)],List.replicate 72 (0:Int)=List.replicate 72 0,muW (muW (sqW (ml x y k).1) (stW (ptW G2K.K2 (ml x y k).2) (ptB (ml x y k).2) (ptW G2K.K2 (ml x y k).2) (ptB (ml x y k).2) x false)) (stW (ptW G2K.K2 (addP G2K.K2.F (ptv G2K.K2 (ptW G2K.K2 (ml x y k).2) (ptB (ml x y k).2)) (ptv G2K.K2 (ptW G2K.K2 (ml x y k).2) (ptB (ml x y k).2)))) (ptB (addP G2K.K2.F (ptv G2K.K2 (ptW G2K.K2 (ml x y k).2) (ptB (ml x y k).2)) (ptv G2K.K2 (ptW G2K.K2 (ml x y k).2) (ptB (ml x y k).2)))) y false x false)=(ml x y (k+1)).1,[Sg.nums 24 (ptW G2K.K2 (addP G2K.K2.F (ptv G2K.K2 (ptW G2K.K2 (addP G2K.K2.F (ptv G2K.K2 (ptW G2K.K2 (ml x y k).2) (ptB (ml x y k).2)) (ptv G2K.K2 (ptW G2K.K2 (ml x y k).2) (ptB (ml x y k).2)))) (ptB (addP G2K.K2.F (ptv G2K.K2 (ptW G2K.K2 (ml x y k).2) (ptB (ml x y k).2)) (ptv G2K.K2 (ptW G2K.K2 (ml x y k).2) (ptB (ml x y k).2))))) (ptv G2K.K2 y false))),Sg.nm (NV.bl (ptB (addP G2K.K2.F (ptv G2K.K2 (ptW G2K.K2 (addP G2K.K2.F (ptv G2K.K2 (ptW G2K.K2 (ml x y k).2) (ptB (ml x y k).2)) (ptv G2K.K2 (ptW G2K.K2 (ml x y k).2) (ptB (ml x y k).2)))) (ptB (addP G2K.K2.F (ptv G2K.K2 (ptW G2K.K2 (ml x y k).2) (ptB (ml x y k).2)) (ptv G2K.K2 (ptW G2K.K2 (ml x y k).2) (ptB (ml x y k).2))))) (ptv G2K.K2 y false))))]=[Sg.nums 24 (ptW G2K.K2 ((ml x y (k+1)).2)),Sg.nm (NV.bl (ptB ((ml x y (k+1)).2)))],qb true (0<=62-(k:Int)),IntKind.u64.wrap (62-(k:Int))=62-(k:Int),rng .u64 (62-(k:Int)),0<=62-(k:Int)/\62-(k:Int)<((64:Nat):Int),rng .u64 (15132376222941642752/2^(62-(k:Int)).toNat),rng .u64 (bits .and .u64 (15132376222941642752/2^(62-(k:Int)).toNat) 1),qb true (bits .and .u64 (15132376222941642752/2^(62-(k:Int)).toNat) 1=1),IntKind.i64.wrap (62-(k:Int)-1)=62-(k:Int)-1]) (by kernel_rfl) (hp (by omega) (hp (rfl) (hp (rfl) (hp (rfl) (hp (by rw[ml_t h2]) (hp (by rw[ml_t h2]) (hp ((by omega:0<=62-(k:Int))) (hp (IntWalk.u64_in _ (by omega)) (hp ((by omega:0<=62-(k:Int)/\62-(k:Int)<18446744073709551616)) (hp (by omega) (hp ((by omega:0<=dk k/\dk k<18446744073709551616)) (hp (hand▸(by omega:0<=dk k%2/\dk k%2<18446744073709551616)) (hp (h3) (hp (IntWalk.i64_in _ (by omega)) trivial)))))))))))))) (by kernel_rfl)
theorem end_ (hG:∀u,RowKit.Below S w u->GlobD u):Goes Tryz.prog S 0 w (lpc Tryz.f27 0) (mk1 x y 63) (.ext 0) (mke x y):=
 (does hG _).goes [false] (ps:=[[Sg.nums 12 x,Sg.nm (NV.bl false)]=[Sg.nums 12 x,Sg.nm (NV.bl false)],[Sg.nums 24 y,Sg.nm (NV.bl false)]=[Sg.nums 24 y,Sg.nm (NV.bl false)],List.replicate 72 (0:Int)=List.replicate 72 0,(ml x y 63).1=(ml x y 63).1,[Sg.nums 24 (ptW G2K.K2 ((ml x y 63).2)),Sg.nm (NV.bl (ptB ((ml x y 63).2)))]=[Sg.nums 24 (ptW G2K.K2 ((ml x y 63).2)),Sg.nm (NV.bl (ptB ((ml x y 63).2)))],qb false (0<=62-((63:Nat):Int))]) (by kernel_rfl) (hp (rfl) (hp (rfl) (hp (rfl) (hp (rfl) (hp (rfl) (hp ((by decide:¬(0<=62-((63:Nat):Int)))) trivial)))))) (by kernel_rfl)
theorem loop (hG:∀u,RowKit.Below S w u->GlobD u):Goes Tryz.prog S 0 w (.block 0 (.loop (lpc Tryz.f27 0))) (mk1 x y 0) .nrm (mke x y):=by
 refine .loop (n:=63) (fun k=>mk1 x y k) (fun k hk=>?_) (end_ hG)
 cases hb:bt k
 ·exact rndf hk hb hG
 ·exact rndt hk hb hG
end
theorem blk0:blkc Tryz.f27 0=.loop (lpc Tryz.f27 0):=by kernel_rfl
theorem qLoop:ConG Tryz.prog GlobD 27 [.p 12,.p 24] G1K.Pre0 (S15D.oP fun x b y c=>S15D.lpA x b y c):=conP lpA_ok (fun _ _ _ _ _=>rfl) (fun x hx b y hy c w hG=>by
 have hG':∀u,RowKit.Below w.heap.size w u->GlobD u:=fun u hu=>hG.keep hu
 cases h1:onB G1K.K1 (G1K.K1.F.int 4) (ptv G1K.K1 x b)
 ·cases h2:onB G2K.K2 G2K.bb (ptv G2K.K2 y c)
  ·exact fn_outK (N:=9) (XM_ok []) (fun c _ id c' f h=>by rw[hooked_nil] at h;cases h) Tryz.func27 hG' (args:=[.agg [.nums 12 x,.nm (.bl b)],.agg [.nums 24 y,.nm (.bl c)]]) (q:=[false,false]) (v:=(.tup [.agg [.nums 72 (List.replicate 72 0)],.num .i64 120])) (obs:=[onB G1K.K1 (G1K.K1.F.int 4) (ptv G1K.K1 x b)=false,onB G2K.K2 G2K.bb (ptv G2K.K2 y c)=false]) 1 (by kernel_rfl) (hp (h1) (hp (h2) trivial)) (okA2 ⟨hx,trivial,trivial⟩ ⟨hy,trivial,trivial⟩) (by rw[lp_off (by rw[h1];rfl)]) (by simp only[List.map_cons,List.map_nil,G1K.p_den,G2K.p_den,S15D.w_den];try rfl)
  ·exact fn_outK (N:=9) (XM_ok []) (fun c _ id c' f h=>by rw[hooked_nil] at h;cases h) Tryz.func27 hG' (args:=[.agg [.nums 12 x,.nm (.bl b)],.agg [.nums 24 y,.nm (.bl c)]]) (q:=[false,true]) (v:=(.tup [.agg [.nums 72 (List.replicate 72 0)],.num .i64 120])) (obs:=[onB G1K.K1 (G1K.K1.F.int 4) (ptv G1K.K1 x b)=false,onB G2K.K2 G2K.bb (ptv G2K.K2 y c)=true]) 1 (by kernel_rfl) (hp (h1) (hp (h2) trivial)) (fun v hv=>by
   simp only[List.mem_cons,List.not_mem_nil,or_false] at hv
   rcases hv with rfl|rfl
   ·exact⟨hx,trivial,trivial⟩
   ·exact⟨hy,trivial,trivial⟩) (by rw[lp_off (by rw[h1];rfl)]) (by simp only[List.map_cons,List.map_nil,G1K.p_den,G2K.p_den,S15D.w_den];try rfl)
 ·cases h2:onB G2K.K2 G2K.bb (ptv G2K.K2 y c)
  ·exact fn_outK (N:=9) (XM_ok []) (fun c _ id c' f h=>by rw[hooked_nil] at h;cases h) Tryz.func27 hG' (args:=[.agg [.nums 12 x,.nm (.bl b)],.agg [.nums 24 y,.nm (.bl c)]]) (q:=[true,false]) (v:=(.tup [.agg [.nums 72 (List.replicate 72 0)],.num .i64 120])) (obs:=[onB G1K.K1 (G1K.K1.F.int 4) (ptv G1K.K1 x b)=true,onB G2K.K2 G2K.bb (ptv G2K.K2 y c)=false]) 1 (by kernel_rfl) (hp (h1) (hp (h2) trivial)) (okA2 ⟨hx,trivial,trivial⟩ ⟨hy,trivial,trivial⟩) (by rw[lp_off (by rw[h1,h2];rfl)]) (by simp only[List.map_cons,List.map_nil,G1K.p_den,G2K.p_den,S15D.w_den];try rfl)
  ·cases b
   ·cases c
    ·exact fn_outK (N:=9) (XM_ok [(0,hookEv (mk1 x y 0) (mke x y))]) (fn_hooks (l:=[(0,blkc Tryz.f27 0,hookEv (mk1 x y 0) (mke x y))]) (by kernel_rfl) ⟨by rw[blk0];exact (loop hG').does (by kernel_rfl),trivial⟩) Tryz.func27 hG' (args:=[.agg [.nums 12 x,.nm (.bl false)],.agg [.nums 24 y,.nm (.bl false)]]) (q:=[true,true,false,false]) (v:=(.tup [.agg [.nums 72 (F12 (Fp12.kc (v12 (ml x y 63).1)))],.num .i64 0])) (obs:=[onB G1K.K1 (G1K.K1.F.int 4) (ptv G1K.K1 x false)=true,onB G2K.K2 G2K.bb (ptv G2K.K2 y false)=true,false=false,false=false,62=62-((0:Nat):Int),[Sg.nums 12 x,Sg.nm (NV.bl false)]=[Sg.nums 12 x,Sg.nm (NV.bl false)],[Sg.nums 24 y,Sg.nm (NV.bl false)]=[Sg.nums 24 y,Sg.nm (NV.bl false)],List.replicate 72 (0:Int)=List.replicate 72 0,O72=(ml x y 0).1,[Sg.nums 24 (ptW G2K.K2 (ptv G2K.K2 y false)),Sg.nm (NV.bl (ptB (ptv G2K.K2 y false)))]=[Sg.nums 24 (ptW G2K.K2 ((ml x y 0).2)),Sg.nm (NV.bl (ptB ((ml x y 0).2)))]]) 1 (by kernel_rfl) (hp (h1) (hp (h2) (hp (rfl) (hp (rfl) (hp (by decide) (hp (rfl) (hp (rfl) (hp (rfl) (hp (rfl) (hp (rfl) trivial)))))))))) (fun v hv=>by
   simp only[List.mem_cons,List.not_mem_nil,or_false] at hv
   rcases hv with rfl|rfl
   ·exact⟨hx,trivial,trivial⟩
   ·exact⟨hy,trivial,trivial⟩) (by rw[lp_go (by rw[h1,h2];rfl)]) (by simp only[List.map_cons,List.map_nil,G1K.p_den,G2K.p_den,S15D.w_den];try rfl)
    ·exact fn_outK (N:=9) (XM_ok []) (fun c _ id c' f h=>by rw[hooked_nil] at h;cases h) Tryz.func27 hG' (args:=[.agg [.nums 12 x,.nm (.bl false)],.agg [.nums 24 y,.nm (.bl true)]]) (q:=[true,true,false,true]) (v:=(.tup [.agg [.nums 72 (O72)],.num .i64 0])) (obs:=[onB G1K.K1 (G1K.K1.F.int 4) (ptv G1K.K1 x false)=true,onB G2K.K2 G2K.bb (ptv G2K.K2 y true)=true,false=false,true=true]) 1 (by kernel_rfl) (hp (h1) (hp (h2) (hp (rfl) (hp (rfl) trivial)))) (okA2 ⟨hx,trivial,trivial⟩ ⟨hy,trivial,trivial⟩) (by rw[lp_one (by rw[h1,h2];rfl) rfl]) (by simp only[List.map_cons,List.map_nil,G1K.p_den,G2K.p_den,S15D.w_den];try rfl)
   ·exact fn_outK (N:=9) (XM_ok []) (fun c _ id c' f h=>by rw[hooked_nil] at h;cases h) Tryz.func27 hG' (args:=[.agg [.nums 12 x,.nm (.bl true)],.agg [.nums 24 y,.nm (.bl c)]]) (q:=[true,true,true]) (v:=(.tup [.agg [.nums 72 (O72)],.num .i64 0])) (obs:=[onB G1K.K1 (G1K.K1.F.int 4) (ptv G1K.K1 x true)=true,onB G2K.K2 G2K.bb (ptv G2K.K2 y c)=true,true=true]) 1 (by kernel_rfl) (hp (h1) (hp (h2) (hp (rfl) trivial))) (fun v hv=>by
   simp only[List.mem_cons,List.not_mem_nil,or_false] at hv
   rcases hv with rfl|rfl
   ·exact⟨hx,trivial,trivial⟩
   ·exact⟨hy,trivial,trivial⟩) (by rw[lp_one (by rw[h1,h2];rfl) rfl]) (by simp only[List.map_cons,List.map_nil,G1K.p_den,G2K.p_den,S15D.w_den];try rfl))
end S15R
namespace S15O
open Go Go.RowKit Reg Base Limb Sx Fp Fp2 Fp6 Fp12 Ec Pts S15D S15N
set_option maxHeartbeats 1000000
def LL:List (Fact Tryz.prog GlobD):=S7.lReduce.fact (.con Tryz.func61 rfl (by decide) S7.lReduce) ::
 S7.lSub.fact (.con Tryz.func63 rfl (by decide) S7.lSub) ::
 S7.lNeg.fact (.con Tryz.func62 rfl (by decide) S7.lNeg) ::
 S7.lMul.fact (.con Tryz.func64 rfl (by decide) S7.lMul) ::
 S7.lScale.fact (.con Tryz.func72 rfl (by decide) S7.lScale) ::
 S7.pReduce.fact (.con Tryz.func115 rfl (by decide) S7.pReduce) ::
 S7.pNeg.fact (.con Tryz.func116 rfl (by decide) S7.pNeg) ::
 []
def TN:List (FuncId×Ent2):=[]
theorem TN_ok:TOk2 Tryz.prog GlobD TN:=trivial
def XL:Cx:=((Cx.of [(24,6),(26,12)] (tb LL)).eqs [(35,12),(37,24)]).more TN
theorem XL_ok:CxOk Tryz.prog XL GlobD:=((cx_ok (E:=[(24,6),(26,12)]) LL ⟨⟨G1K.eqF,G1K.gdF⟩,⟨G2K.eqF,G2K.gdF⟩,trivial⟩ (by kernel_rfl)).eqs (EM:=[(35,12),(37,24)]) ⟨⟨G1K.eqG,G1K.gdG⟩,⟨G2K.eqG,G2K.gdG⟩,trivial⟩).more TN_ok
theorem lLine:ConG Tryz.prog GlobD 146 [.w 12,.p 24,.p 12] G1K.Pre0 (S15D.oL fun s x b y c=>.agg [.nums 72 (S15D.lnW s x y)]):=conL (fun s x b y c n=>⟨Fp12.Nm.F12 _,trivial⟩) (fun _ _ _ _ _ _=>rfl) (fun s hs x hx b y hy c w hG=>fn_outS (N:=9) XL_ok GlobD.keep Tryz.func146 [] (fun s hs=>by cases hs) (G1K.noSS hG) (args:=[.agg [.nums 12 s],.agg [.nums 24 x,.nm (.bl b)],.agg [.nums 12 y,.nm (.bl c)]]) (q:=[]) (v:=(.agg [.nums 72 (F2 (gs (v2 (F2 (gm (v2 s) (v2 (seg 0 12 x))))) (v2 (seg 12 12 x)))++F2 (gn (v2 (F2 (gk (v2 s) (num (seg 0 6 y))))))++List.replicate 12 0++List.replicate 12 0++Fp.fe (num (seg 6 6 y))++List.replicate 6 0++List.replicate 12 0)])) (obs:=[]) 1 (by kernel_rfl) (trivial) (okA3 ⟨hs,trivial⟩ ⟨hx,trivial,trivial⟩ ⟨hy,trivial,trivial⟩) (by rw[ln_raw]) (by simp only[List.map_cons,List.map_nil,G1K.p_den,G2K.p_den,S15D.w_den];try rfl))
def LS:List (Fact Tryz.prog GlobD):=S13O.pAdd.fact (.con Tryz.func125 rfl (by decide) S13O.pAdd) ::
 S13O.pSub.fact (.con Tryz.func63 rfl (by decide) S13O.pSub) ::
 S13O.pMul.fact (.con Tryz.func64 rfl (by decide) S13O.pMul) ::
 []
def XS:Cx:=((Cx.of [(24,6),(26,12)] (tb LS)).eqs [(35,12),(37,24)]).more TN
theorem XS_ok:CxOk Tryz.prog XS GlobD:=((cx_ok (E:=[(24,6),(26,12)]) LS ⟨⟨G1K.eqF,G1K.gdF⟩,⟨G2K.eqF,G2K.gdF⟩,trivial⟩ (by kernel_rfl)).eqs (EM:=[(35,12),(37,24)]) ⟨⟨G1K.eqG,G1K.gdG⟩,⟨G2K.eqG,G2K.gdG⟩,trivial⟩).more TN_ok
def L0:List (Fact Tryz.prog GlobD):=⟨111,entI 111 XL 9,.inline XL_ok GlobD.keep Tryz.func111 rfl (by decide)⟩ ::
 ⟨145,entI 145 XL 9,.inline XL_ok GlobD.keep Tryz.func145 rfl (by decide)⟩ ::
 S13O.pMul.fact (.con Tryz.func64 rfl (by decide) S13O.pMul) ::
 S13O.pInv.fact (.con Tryz.func69 rfl (by decide) S13O.pInv) ::
 []
def TB:List (FuncId×Ent2):=[(146,entG [.w 12,.p 24,.p 12] G1K.Pre0 (S15D.oL fun s x b y c=>.agg [.nums 72 (S15D.lnW s x y)])),(144,entG [.p 24] G2K.Pre0 (G2K.o1 fun x b=>G2K.PA (ptv G2K.K2 x b))),(142,entG [.p 24,.p 24] G2K.Pre0 (G2K.o2 fun x b y c=>G2K.PA (addP G2K.K2.F (ptv G2K.K2 x b) (ptv G2K.K2 y c))))]
theorem TB_ok:TOk2 Tryz.prog GlobD TB:=⟨.conG Tryz.func146 rfl (by decide) lLine,.conG Tryz.func144 rfl (by decide) S13O.lReduce,.conG Tryz.func142 rfl (by decide) S13O.lAdd,trivial⟩
noncomputable def TS (q:List Bool):List (FuncId×Ent2):=(143,entQ Tryz.prog 143 XS 9 q) :: TB
theorem TS_ok (q:List Bool):TOk2 Tryz.prog GlobD (TS q):=⟨.inlineQ XS_ok GlobD.keep Tryz.func143 rfl (by decide),TB_ok⟩
noncomputable def XT (q:List Bool):Cx:=((Cx.of [(24,6),(26,12)] (tb L0)).eqs [(35,12),(37,24)]).more (TS q)
theorem XT_ok (q:List Bool):CxOk Tryz.prog (XT q) GlobD:=((cx_ok (E:=[(24,6),(26,12)]) L0 ⟨⟨G1K.eqF,G1K.gdF⟩,⟨G2K.eqF,G2K.gdF⟩,trivial⟩ (by kernel_rfl)).eqs (EM:=[(35,12),(37,24)]) ⟨⟨G1K.eqG,G1K.gdG⟩,⟨G2K.eqG,G2K.gdG⟩,trivial⟩).more (TS_ok q)
theorem sl_t {x y:List Int}(e:(sl x y).2=true)(e1:wr G2K.K2 (seg 0 12 x)=wr G2K.K2 (seg 0 12 y)):(sl x y).1=slTl G2K.K2 (seg 0 12 (ptW G2K.K2 (ptv G2K.K2 x false))) (seg 12 12 (ptW G2K.K2 (ptv G2K.K2 x false))):=by
 rw[S13R.rx,S13R.ry,slTl_ok G2K.K2 G2K.h2 G2K.h3]
 have h:sl x y=if wr G2K.K2 (seg 12 12 x)=wr G2K.K2 (seg 12 12 y)/\¬wr G2K.K2 (seg 12 12 x)=G2K.c0 then (slTw G2K.K2 G2K.c2 G2K.c3 (wr G2K.K2 (seg 0 12 x)) (wr G2K.K2 (seg 12 12 x)),true) else (List.replicate 12 0,false):=if_pos e1
 rw[h] at e ⊢
 split at e
 ·rename_i k
  rw[if_pos k]
 ·cases e
theorem sl_c {x y:List Int}(e1:¬wr G2K.K2 (seg 0 12 x)=wr G2K.K2 (seg 0 12 y)):(sl x y).1=slCw G2K.K2 (seg 0 12 (ptW G2K.K2 (ptv G2K.K2 x false))) (seg 12 12 (ptW G2K.K2 (ptv G2K.K2 x false))) (seg 0 12 (ptW G2K.K2 (ptv G2K.K2 y false))) (seg 12 12 (ptW G2K.K2 (ptv G2K.K2 y false))):=by
 rw[S13R.rx,S13R.ry,S13R.rx,S13R.ry]
 exact congrArg Prod.fst (if_neg e1)
theorem run_c {x y:List Int}:ws G2K.K2 (seg 0 12 (ptW G2K.K2 (ptv G2K.K2 y false))) (seg 0 12 (ptW G2K.K2 (ptv G2K.K2 x false)))=[0,0,0,0,0,0,0,0,0,0,0,0]↔wr G2K.K2 (seg 0 12 x)=wr G2K.K2 (seg 0 12 y):=by
 have h:[0,0,0,0,0,0,0,0,0,0,0,0]=G2K.K2.wo (G2K.K2.F.int 0):=G2K.h0.symm
 rw[S13R.rx,S13R.rx,h]
 simp only[ws,wr,sub_l,sub_r]
 exact (wo_z G2K.K2).trans ⟨fun h=>(G2K.K2.wo_eq h).symm,fun h=>G2K.K2.eq_wo h.symm⟩
theorem run_t {x:List Int}:w2 G2K.K2 (seg 12 12 (ptW G2K.K2 (ptv G2K.K2 x false)))=[0,0,0,0,0,0,0,0,0,0,0,0]↔wr G2K.K2 (seg 12 12 x)=G2K.c0:=by
 have h:[0,0,0,0,0,0,0,0,0,0,0,0]=G2K.K2.wo (G2K.K2.F.int 0):=G2K.h0.symm
 rw[S13R.ry,h,<-G2K.h0]
 simp only[w2,wa,wr,add_l,add_r]
 rw[wo_z,wo_z,two_]
 exact⟨fun h=>(G2K.K2.F.zd h).resolve_left (nz_int _ (by decide +kernel)),fun h=>by rw[G2K.K2.F.mul_comm];exact G2K.K2.F.zm _ h⟩
theorem sl_at {x y:List Int}:(sl x y).2=true↔¬(wr G2K.K2 (seg 0 12 x)=wr G2K.K2 (seg 0 12 y)/\¬(wr G2K.K2 (seg 12 12 x)=wr G2K.K2 (seg 12 12 y)/\¬wr G2K.K2 (seg 12 12 x)=G2K.c0)):=by
 by_cases e1:wr G2K.K2 (seg 0 12 x)=wr G2K.K2 (seg 0 12 y)
 ·have h:sl x y=if wr G2K.K2 (seg 12 12 x)=wr G2K.K2 (seg 12 12 y)/\¬wr G2K.K2 (seg 12 12 x)=G2K.c0 then (slTw G2K.K2 G2K.c2 G2K.c3 (wr G2K.K2 (seg 0 12 x)) (wr G2K.K2 (seg 12 12 x)),true) else (List.replicate 12 0,false):=if_pos e1
  rw[h]
  split
  ·rename_i k
   exact⟨fun _ h=>h.2 k,fun _=>rfl⟩
  ·rename_i k
   exact⟨fun h=>(nomatch h),fun h=>(h ⟨e1,k⟩).elim⟩
 ·have h:sl x y=(slCw G2K.K2 (wr G2K.K2 (seg 0 12 x)) (wr G2K.K2 (seg 12 12 x)) (wr G2K.K2 (seg 0 12 y)) (wr G2K.K2 (seg 12 12 y)),true):=if_neg e1
  rw[h]
  exact⟨fun _ h=>e1 h.1,fun _=>rfl⟩
theorem sl_off {x y:List Int}(h:¬(sl x y).2=true):(sl x y).2=false:=by
 cases e:(sl x y).2
 ·rfl
 ·exact (h e).elim
theorem lStep:ConG Tryz.prog GlobD 113 [.p 24,.p 24,.p 12] G1K.Pre0 (S15D.oS fun x b y c z d=>S15D.stA x b y c z d):=conS stA_ok stA_den (fun x hx b y hy c z hz d w hG=>by
 cases b
 ·cases c
  ·cases d
   ·by_cases e1:wr G2K.K2 (seg 0 12 x)=wr G2K.K2 (seg 0 12 y)
    ·by_cases e2:wr G2K.K2 (seg 12 12 x)=wr G2K.K2 (seg 12 12 y)
     ·by_cases e3:wr G2K.K2 (seg 12 12 x)=G2K.c0
      ·have e:(sl x y).2=false:=sl_off fun h=>sl_at.1 h ⟨e1,fun k=>k.2 e3⟩
       exact fn_outS (N:=9) (XT_ok [true]) GlobD.keep Tryz.func113 [] (fun s hs=>by cases hs) (G1K.noSS hG) (args:=[.agg [.nums 24 x,.nm (.bl false)],.agg [.nums 24 y,.nm (.bl false)],.agg [.nums 12 z,.nm (.bl false)]]) (q:=[false,false,false,true]) (v:=(.tup [.agg [.nums 24 (ptW G2K.K2 (addP G2K.K2.F (ptv G2K.K2 x false) (ptv G2K.K2 y false))),.nm (.bl (ptB (addP G2K.K2.F (ptv G2K.K2 x false) (ptv G2K.K2 y false))))],.agg [.nums 72 (F2 (v2 (seg 0 12 x))++Fp.fe (-num (seg 0 6 z))++List.replicate 6 0++List.replicate 12 0++List.replicate 36 0)]])) (obs:=[false=false,false=false,false=false,qb true (ptW G2K.K2 (ptv G2K.K2 x false)=ptW G2K.K2 (ptv G2K.K2 y false)/\ptB (ptv G2K.K2 x false)=ptB (ptv G2K.K2 y false)),qb true (w2 G2K.K2 (seg 12 12 (ptW G2K.K2 (ptv G2K.K2 x false)))=[0,0,0,0,0,0,0,0,0,0,0,0])]) 1 (by kernel_rfl) (hp (rfl) (hp (rfl) (hp (rfl) (hp (S13O.pteq.2 ⟨e1,e2⟩) (hp (run_t.2 e3) trivial))))) (okA3 ⟨hx,trivial,trivial⟩ ⟨hy,trivial,trivial⟩ ⟨hz,trivial,trivial⟩) (by rw[vt_raw,stA,st_vt e]) (by simp only[List.map_cons,List.map_nil,G1K.p_den,G2K.p_den,S15D.w_den];try rfl)
      ·have e:(sl x y).2=true:=sl_at.2 fun h=>h.2 ⟨e2,e3⟩
       exact fn_outS (N:=9) (XT_ok [true]) GlobD.keep Tryz.func113 [] (fun s hs=>by cases hs) (G1K.noSS hG) (args:=[.agg [.nums 24 x,.nm (.bl false)],.agg [.nums 24 y,.nm (.bl false)],.agg [.nums 12 z,.nm (.bl false)]]) (q:=[false,false,false,false]) (v:=(.tup [.agg [.nums 24 (ptW G2K.K2 (addP G2K.K2.F (ptv G2K.K2 x false) (ptv G2K.K2 y false))),.nm (.bl (ptB (addP G2K.K2.F (ptv G2K.K2 x false) (ptv G2K.K2 y false))))],.agg [.nums 72 (lnW (slTl G2K.K2 (seg 0 12 (ptW G2K.K2 (ptv G2K.K2 x false))) (seg 12 12 (ptW G2K.K2 (ptv G2K.K2 x false)))) x z)]])) (obs:=[false=false,false=false,false=false,qb true (ptW G2K.K2 (ptv G2K.K2 x false)=ptW G2K.K2 (ptv G2K.K2 y false)/\ptB (ptv G2K.K2 x false)=ptB (ptv G2K.K2 y false)),qb false (w2 G2K.K2 (seg 12 12 (ptW G2K.K2 (ptv G2K.K2 x false)))=[0,0,0,0,0,0,0,0,0,0,0,0])]) 1 (by kernel_rfl) (hp (rfl) (hp (rfl) (hp (rfl) (hp (S13O.pteq.2 ⟨e1,e2⟩) (hp (fun h=>e3 (run_t.1 h)) trivial))))) (okA3 ⟨hx,trivial,trivial⟩ ⟨hy,trivial,trivial⟩ ⟨hz,trivial,trivial⟩) (by rw[stA,st_ln e,sl_t e e1]) (by simp only[List.map_cons,List.map_nil,G1K.p_den,G2K.p_den,S15D.w_den];try rfl)
     ·have e:(sl x y).2=false:=sl_off fun h=>sl_at.1 h ⟨e1,fun k=>e2 k.1⟩
      exact fn_outS (N:=9) (XT_ok [false]) GlobD.keep Tryz.func113 [] (fun s hs=>by cases hs) (G1K.noSS hG) (args:=[.agg [.nums 24 x,.nm (.bl false)],.agg [.nums 24 y,.nm (.bl false)],.agg [.nums 12 z,.nm (.bl false)]]) (q:=[false,false,false,true]) (v:=(.tup [.agg [.nums 24 (ptW G2K.K2 (addP G2K.K2.F (ptv G2K.K2 x false) (ptv G2K.K2 y false))),.nm (.bl (ptB (addP G2K.K2.F (ptv G2K.K2 x false) (ptv G2K.K2 y false))))],.agg [.nums 72 (F2 (v2 (seg 0 12 x))++Fp.fe (-num (seg 0 6 z))++List.replicate 6 0++List.replicate 12 0++List.replicate 36 0)]])) (obs:=[false=false,false=false,false=false,qb false (ptW G2K.K2 (ptv G2K.K2 x false)=ptW G2K.K2 (ptv G2K.K2 y false)/\ptB (ptv G2K.K2 x false)=ptB (ptv G2K.K2 y false)),qb true (ws G2K.K2 (seg 0 12 (ptW G2K.K2 (ptv G2K.K2 y false))) (seg 0 12 (ptW G2K.K2 (ptv G2K.K2 x false)))=[0,0,0,0,0,0,0,0,0,0,0,0])]) 1 (by kernel_rfl) (hp (rfl) (hp (rfl) (hp (rfl) (hp (fun h=>e2 (S13O.pteq.1 h).2) (hp (run_c.2 e1) trivial))))) (okA3 ⟨hx,trivial,trivial⟩ ⟨hy,trivial,trivial⟩ ⟨hz,trivial,trivial⟩) (by rw[vt_raw,stA,st_vt e]) (by simp only[List.map_cons,List.map_nil,G1K.p_den,G2K.p_den,S15D.w_den];try rfl)
    ·have e:(sl x y).2=true:=sl_at.2 fun h=>e1 h.1
     exact fn_outS (N:=9) (XT_ok [false]) GlobD.keep Tryz.func113 [] (fun s hs=>by cases hs) (G1K.noSS hG) (args:=[.agg [.nums 24 x,.nm (.bl false)],.agg [.nums 24 y,.nm (.bl false)],.agg [.nums 12 z,.nm (.bl false)]]) (q:=[false,false,false,false]) (v:=(.tup [.agg [.nums 24 (ptW G2K.K2 (addP G2K.K2.F (ptv G2K.K2 x false) (ptv G2K.K2 y false))),.nm (.bl (ptB (addP G2K.K2.F (ptv G2K.K2 x false) (ptv G2K.K2 y false))))],.agg [.nums 72 (lnW (slCw G2K.K2 (seg 0 12 (ptW G2K.K2 (ptv G2K.K2 x false))) (seg 12 12 (ptW G2K.K2 (ptv G2K.K2 x false))) (seg 0 12 (ptW G2K.K2 (ptv G2K.K2 y false))) (seg 12 12 (ptW G2K.K2 (ptv G2K.K2 y false)))) x z)]])) (obs:=[false=false,false=false,false=false,qb false (ptW G2K.K2 (ptv G2K.K2 x false)=ptW G2K.K2 (ptv G2K.K2 y false)/\ptB (ptv G2K.K2 x false)=ptB (ptv G2K.K2 y false)),qb false (ws G2K.K2 (seg 0 12 (ptW G2K.K2 (ptv G2K.K2 y false))) (seg 0 12 (ptW G2K.K2 (ptv G2K.K2 x false)))=[0,0,0,0,0,0,0,0,0,0,0,0])]) 1 (by kernel_rfl) (hp (rfl) (hp (rfl) (hp (rfl) (hp (fun h=>e1 (S13O.pteq.1 h).1) (hp (fun h=>e1 (run_c.1 h)) trivial))))) (okA3 ⟨hx,trivial,trivial⟩ ⟨hy,trivial,trivial⟩ ⟨hz,trivial,trivial⟩) (by rw[stA,st_ln e,sl_c e1]) (by simp only[List.map_cons,List.map_nil,G1K.p_den,G2K.p_den,S15D.w_den];try rfl)
   ·exact fn_outS (N:=9) (XT_ok []) GlobD.keep Tryz.func113 [] (fun s hs=>by cases hs) (G1K.noSS hG) (args:=[.agg [.nums 24 x,.nm (.bl false)],.agg [.nums 24 y,.nm (.bl false)],.agg [.nums 12 z,.nm (.bl true)]]) (q:=[false,false,true]) (v:=(.tup [.agg [.nums 24 (ptW G2K.K2 (addP G2K.K2.F (ptv G2K.K2 x false) (ptv G2K.K2 y false))),.nm (.bl (ptB (addP G2K.K2.F (ptv G2K.K2 x false) (ptv G2K.K2 y false))))],.agg [.nums 72 ([1]++List.replicate 71 0)]])) (obs:=[false=false,false=false,true=true]) 1 (by kernel_rfl) (hp (rfl) (hp (rfl) (hp (rfl) trivial))) (fun v hv=>by
   simp only[List.mem_cons,List.not_mem_nil,or_false] at hv
   rcases hv with rfl|rfl|rfl
   ·exact⟨hx,trivial,trivial⟩
   ·exact⟨hy,trivial,trivial⟩
   ·exact⟨hz,trivial,trivial⟩) (by rw[stA,st_one rfl];rfl) (by simp only[List.map_cons,List.map_nil,G1K.p_den,G2K.p_den,S15D.w_den];try rfl)
  ·exact fn_outS (N:=9) (XT_ok []) GlobD.keep Tryz.func113 [] (fun s hs=>by cases hs) (G1K.noSS hG) (args:=[.agg [.nums 24 x,.nm (.bl false)],.agg [.nums 24 y,.nm (.bl true)],.agg [.nums 12 z,.nm (.bl d)]]) (q:=[false,true]) (v:=(.tup [.agg [.nums 24 (ptW G2K.K2 (addP G2K.K2.F (ptv G2K.K2 x false) (ptv G2K.K2 y true))),.nm (.bl (ptB (addP G2K.K2.F (ptv G2K.K2 x false) (ptv G2K.K2 y true))))],.agg [.nums 72 ([1]++List.replicate 71 0)]])) (obs:=[false=false,true=true]) 1 (by kernel_rfl) (hp (rfl) (hp (rfl) trivial)) (okA3 ⟨hx,trivial,trivial⟩ ⟨hy,trivial,trivial⟩ ⟨hz,trivial,trivial⟩) (by rw[stA,st_one (by cases d<;>rfl)];rfl) (by simp only[List.map_cons,List.map_nil,G1K.p_den,G2K.p_den,S15D.w_den];try rfl)
 ·exact fn_outS (N:=9) (XT_ok []) GlobD.keep Tryz.func113 [] (fun s hs=>by cases hs) (G1K.noSS hG) (args:=[.agg [.nums 24 x,.nm (.bl true)],.agg [.nums 24 y,.nm (.bl c)],.agg [.nums 12 z,.nm (.bl d)]]) (q:=[true]) (v:=(.tup [.agg [.nums 24 (ptW G2K.K2 (addP G2K.K2.F (ptv G2K.K2 x true) (ptv G2K.K2 y c))),.nm (.bl (ptB (addP G2K.K2.F (ptv G2K.K2 x true) (ptv G2K.K2 y c))))],.agg [.nums 72 ([1]++List.replicate 71 0)]])) (obs:=[true=true]) 1 (by kernel_rfl) (hp (rfl) trivial) (fun v hv=>by
   simp only[List.mem_cons,List.not_mem_nil,or_false] at hv
   rcases hv with rfl|rfl|rfl
   ·exact⟨hx,trivial,trivial⟩
   ·exact⟨hy,trivial,trivial⟩
   ·exact⟨hz,trivial,trivial⟩) (by rw[stA,st_one (by cases d<;>rfl)];rfl) (by simp only[List.map_cons,List.map_nil,G1K.p_den,G2K.p_den,S15D.w_den];try rfl))
def LC:List (Fact Tryz.prog GlobD):=S10.lMul.fact (.con Tryz.func29 rfl (by decide) S10.lMul) ::
 []
def TC:List (FuncId×Ent2):=[(113,entG [.p 24,.p 24,.p 12] G1K.Pre0 (S15D.oS fun x b y c z d=>S15D.stA x b y c z d))]
theorem TC_ok:TOk2 Tryz.prog GlobD TC:=⟨.conG Tryz.func113 rfl (by decide) lStep,trivial⟩
def XC:Cx:=((Cx.of [(24,6),(26,12)] (tb LC)).eqs [(35,12),(37,24)]).more TC
theorem XC_ok:CxOk Tryz.prog XC GlobD:=((cx_ok (E:=[(24,6),(26,12)]) LC ⟨⟨G1K.eqF,G1K.gdF⟩,⟨G2K.eqF,G2K.gdF⟩,trivial⟩ (by kernel_rfl)).eqs (EM:=[(35,12),(37,24)]) ⟨⟨G1K.eqG,G1K.gdG⟩,⟨G2K.eqG,G2K.gdG⟩,trivial⟩).more TC_ok
noncomputable def TW1:List (FuncId×Ent4):=[(112,entCl Tryz.prog 112 XC 9)]
theorem TW1_ok:TOk4 Tryz.prog GlobD TW1:=⟨.inline XC_ok Tryz.func112 rfl (by decide),trivial⟩
noncomputable def XE:Cx:=XC.wrs TW1
theorem XE_ok:CxOk Tryz.prog XE GlobD:=XC_ok.wrs TW1_ok
noncomputable def TW:List (FuncId×Ent4):=(114,entCl Tryz.prog 114 XE 9) :: TW1
theorem TW_ok:TOk4 Tryz.prog GlobD TW:=⟨.inline XE_ok Tryz.func114 rfl (by decide),TW1_ok⟩
def LM:List (Fact Tryz.prog GlobD):=⟨111,entI 111 XL 9,.inline XL_ok GlobD.keep Tryz.func111 rfl (by decide)⟩ ::
 S10.lMul.fact (.con Tryz.func29 rfl (by decide) S10.lMul) ::
 S10.lConj.fact (.con Tryz.func15 rfl (by decide) S10.lConj) ::
 []
def TM:List (FuncId×Ent2):=[(109,entG [.p 12] G1K.Pre0 (G1K.o1 fun x b=>.bl (onB G1K.K1 (G1K.K1.F.int 4) (ptv G1K.K1 x b)))),(110,entG [.p 24] G2K.Pre0 (G2K.o1 fun x b=>.bl (onB G2K.K2 G2K.bb (ptv G2K.K2 x b))))]
theorem TM_ok:TOk2 Tryz.prog GlobD TM:=⟨.conG Tryz.func109 rfl (by decide) S12O.lOn,.conG Tryz.func110 rfl (by decide) S13O.lOn,trivial⟩
def X0:Cx:=((Cx.of [(24,6),(26,12)] (tb LM)).eqs [(35,12),(37,24)]).more TM
theorem X0_ok:CxOk Tryz.prog X0 GlobD:=((cx_ok (E:=[(24,6),(26,12)]) LM ⟨⟨G1K.eqF,G1K.gdF⟩,⟨G2K.eqF,G2K.gdF⟩,trivial⟩ (by kernel_rfl)).eqs (EM:=[(35,12),(37,24)]) ⟨⟨G1K.eqG,G1K.gdG⟩,⟨G2K.eqG,G2K.gdG⟩,trivial⟩).more TM_ok
noncomputable def XV:Cx:=X0.wrs TW
theorem XV_ok:CxOk Tryz.prog XV GlobD:=X0_ok.wrs TW_ok
noncomputable abbrev XM (H:List (Nat×Ev)):Cx:=XV.sym (fun _ _ _=>False) H
theorem XM_ok (H:List (Nat×Ev)):CxB Tryz.prog (XM H) GlobD:=XV_ok.toCxB.sym (fun u h=>h) (fun _ _ _ h=>h.elim) H
section
variable (x y f tw:List Int) (tb:Bool)
def b5:List Bk:=[(35,[.nums 12 x,.nm (.bl false)]),(37,[.nums 24 y,.nm (.bl false)]),(30,[.nums 72 (List.replicate 72 0)]),(30,[.nums 72 f]),(37,[.nums 24 tw,.nm (.bl tb)]),(111,[.nm (.fn 112 [4,0,3])])]
def m1 (k:Nat):St:=⟨mkSl 52 [(2,.ptr 0 0),(3,.ptr 1 0),(4,.ptr 2 0),(6,.ptr 3 0),(7,.ptr 4 0),(8,.ptr 5 0),(9,.fn 114 [3,5,4]),(10,.num .i64 (62-(k:Int)))],b5 x y f tw tb⟩
def m1e:St:=⟨mkSl 52 [(4,.ptr 2 0),(6,.ptr 3 0)],b5 x y f tw tb⟩
end
def tW (x y:List Int):Nat->List Int
 |0=>y
 |k+1=>ptW G2K.K2 (ml x y (k+1)).2
def tB (x y:List Int):Nat->Bool
 |0=>false
 |k+1=>ptB (ml x y (k+1)).2
section
variable {x y:List Int} {S:Nat} {w:World}
theorem tw_st:∀k,stW (tW x y k) (tB x y k) (tW x y k) (tB x y k) x false=stW (ptW G2K.K2 (ml x y k).2) (ptB (ml x y k).2) (ptW G2K.K2 (ml x y k).2) (ptB (ml x y k).2) x false
 |0=>(st_rd y y x false).symm
 |k+1=>rfl
theorem tw_ad:∀k,ptW G2K.K2 (addP G2K.K2.F (ptv G2K.K2 (tW x y k) (tB x y k)) (ptv G2K.K2 (tW x y k) (tB x y k)))=ptW G2K.K2 (addP G2K.K2.F (vo G2K.K2 (ml x y k).2) (vo G2K.K2 (ml x y k).2))/\ptB (addP G2K.K2.F (ptv G2K.K2 (tW x y k) (tB x y k)) (ptv G2K.K2 (tW x y k) (tB x y k)))=ptB (addP G2K.K2.F (vo G2K.K2 (ml x y k).2) (vo G2K.K2 (ml x y k).2))
 |0=>ad_rd y
 |k+1=>⟨rfl,rfl⟩
abbrev mk1 (x y:List Int)(k:Nat):St:=m1 x y (ml x y k).1 (tW x y k) (tB x y k) k
abbrev mke (x y:List Int):St:=m1e x y (ml x y 63).1 (tW x y 63) (tB x y 63)
theorem does (hG:∀u,RowKit.Below S w u->GlobD u)(c:Code):Does Tryz.prog S 0 w c (evalC Tryz.prog (XM []) 0 9 c):=code_ok (XM_ok []) hG c (fun _ _ _ h=>by rw[hooked_nil] at h;cases h)
theorem rndf {k:Nat}(hk:k<63)(h2:bt k=false)(hG:∀u,RowKit.Below S w u->GlobD u):Goes Tryz.prog S 0 w (lpc Tryz.f58 1) (mk1 x y k) .nrm (mk1 x y (k+1)):=by
 have hd:=dk_in k
 have a1:=tw_st (x:=x) (y:=y) k
 have a2:=tw_ad (x:=x) (y:=y) k
 have h3:qb false (dk k%2=1):=(of_decide_eq_false h2:¬dk k%2=1)
 exact (does hG _).goes [false,false] (ps:=[AV.fn 114 [3,5,4]=AV.fn 114 [3,5,4],62-(k:Int)-1=62-((k+1:Nat):Int),[Sg.nums 12 x,Sg.nm (NV.bl false)]=[Sg.nums 12 x,Sg.nm (NV.bl false)],[Sg.nums 24 y,Sg.nm (NV.bl false)]=[Sg.nums 24 y,Sg.nm (NV.bl false)],List.replicate 72 (0:Int)=List.replicate 72 0,muW (sqW (ml x y k).1) (stW (tW x y k) (tB x y k) (tW x y k) (tB x y k) x false)=(ml x y (k+1)).1,[Sg.nums 24 (ptW G2K.K2 (addP G2K.K2.F (ptv G2K.K2 (tW x y k) (tB x y k)) (ptv G2K.K2 (tW x y k) (tB x y k)))),Sg.nm (NV.bl (ptB (addP G2K.K2.F (ptv G2K.K2 (tW x y k) (tB x y k)) (ptv G2K.K2 (tW x y k) (tB x y k)))))]=[Sg.nums 24 (ptW G2K.K2 ((ml x y (k+1)).2)),Sg.nm (NV.bl (ptB ((ml x y (k+1)).2)))],[Sg.nm (NV.fn 112 [4,0,3])]=[Sg.nm (NV.fn 112 [4,0,3])],qb false (62-(k:Int)<0),0<=62-(k:Int)/\62-(k:Int)<((64:Nat):Int),rng .u64 (15132376222941642752/2^(62-(k:Int)).toNat),0<=15132376222941642752/2^(62-(k:Int)).toNat/\(0:Int)<2,rng .u64 (15132376222941642752/2^(62-(k:Int)).toNat%2),qb false (15132376222941642752/2^(62-(k:Int)).toNat%2=1),IntKind.i64.wrap (62-(k:Int)-1)=62-(k:Int)-1]) (by kernel_rfl) (hp (rfl) (hp (by omega) (hp (rfl) (hp (rfl) (hp (rfl) (hp (by rw[a1,ml_f h2]) (hp (by rw[a2.1,a2.2,ml_f h2]) (hp (rfl) (hp ((by omega:¬(62-(k:Int)<0))) (hp (by omega) (hp ((by omega:0<=dk k/\dk k<18446744073709551616)) (hp (⟨hd.1,by decide⟩) (hp ((by omega:0<=dk k%2/\dk k%2<18446744073709551616)) (hp (h3) (hp (IntWalk.i64_in _ (by omega)) trivial))))))))))))))) (by kernel_rfl)
theorem rndt {k:Nat}(hk:k<63)(h2:bt k=true)(hG:∀u,RowKit.Below S w u->GlobD u):Goes Tryz.prog S 0 w (lpc Tryz.f58 1) (mk1 x y k) .nrm (mk1 x y (k+1)):=by
 have hd:=dk_in k
 have a1:=tw_st (x:=x) (y:=y) k
 have a2:=tw_ad (x:=x) (y:=y) k
 have h3:qb true (dk k%2=1):=(of_decide_eq_true h2:dk k%2=1)
 exact (does hG _).goes [false,true] (ps:=[AV.fn 114 [3,5,4]=AV.fn 114 [3,5,4],62-(k:Int)-1=62-((k+1:Nat):Int),[Sg.nums 12 x,Sg.nm (NV.bl false)]=[Sg.nums 12 x,Sg.nm (NV.bl false)],[Sg.nums 24 y,Sg.nm (NV.bl false)]=[Sg.nums 24 y,Sg.nm (NV.bl false)],List.replicate 72 (0:Int)=List.replicate 72 0,muW (muW (sqW (ml x y k).1) (stW (tW x y k) (tB x y k) (tW x y k) (tB x y k) x false)) (stW (ptW G2K.K2 (addP G2K.K2.F (ptv G2K.K2 (tW x y k) (tB x y k)) (ptv G2K.K2 (tW x y k) (tB x y k)))) (ptB (addP G2K.K2.F (ptv G2K.K2 (tW x y k) (tB x y k)) (ptv G2K.K2 (tW x y k) (tB x y k)))) y false x false)=(ml x y (k+1)).1,[Sg.nums 24 (ptW G2K.K2 (addP G2K.K2.F (ptv G2K.K2 (ptW G2K.K2 (addP G2K.K2.F (ptv G2K.K2 (tW x y k) (tB x y k)) (ptv G2K.K2 (tW x y k) (tB x y k)))) (ptB (addP G2K.K2.F (ptv G2K.K2 (tW x y k) (tB x y k)) (ptv G2K.K2 (tW x y k) (tB x y k))))) (ptv G2K.K2 y false))),Sg.nm (NV.bl (ptB (addP G2K.K2.F (ptv G2K.K2 (ptW G2K.K2 (addP G2K.K2.F (ptv G2K.K2 (tW x y k) (tB x y k)) (ptv G2K.K2 (tW x y k) (tB x y k)))) (ptB (addP G2K.K2.F (ptv G2K.K2 (tW x y k) (tB x y k)) (ptv G2K.K2 (tW x y k) (tB x y k))))) (ptv G2K.K2 y false))))]=[Sg.nums 24 (ptW G2K.K2 ((ml x y (k+1)).2)),Sg.nm (NV.bl (ptB ((ml x y (k+1)).2)))],[Sg.nm (NV.fn 112 [4,0,3])]=[Sg.nm (NV.fn 112 [4,0,3])],qb false (62-(k:Int)<0),0<=62-(k:Int)/\62-(k:Int)<((64:Nat):Int),rng .u64 (15132376222941642752/2^(62-(k:Int)).toNat),0<=15132376222941642752/2^(62-(k:Int)).toNat/\(0:Int)<2,rng .u64 (15132376222941642752/2^(62-(k:Int)).toNat%2),qb true (15132376222941642752/2^(62-(k:Int)).toNat%2=1),IntKind.i64.wrap (62-(k:Int)-1)=62-(k:Int)-1]) (by kernel_rfl) (hp (rfl) (hp (by omega) (hp (rfl) (hp (rfl) (hp (rfl) (hp (by rw[a1,a2.1,a2.2,ml_t h2]) (hp (by rw[a2.1,a2.2,ml_t h2]) (hp (rfl) (hp ((by omega:¬(62-(k:Int)<0))) (hp (by omega) (hp ((by omega:0<=dk k/\dk k<18446744073709551616)) (hp (⟨hd.1,by decide⟩) (hp ((by omega:0<=dk k%2/\dk k%2<18446744073709551616)) (hp (h3) (hp (IntWalk.i64_in _ (by omega)) trivial))))))))))))))) (by kernel_rfl)
theorem end_ (hG:∀u,RowKit.Below S w u->GlobD u):Goes Tryz.prog S 0 w (lpc Tryz.f58 1) (mk1 x y 63) (.ext 1) (mke x y):=
 (does hG _).goes [true] (ps:=[[Sg.nums 12 x,Sg.nm (NV.bl false)]=[Sg.nums 12 x,Sg.nm (NV.bl false)],[Sg.nums 24 y,Sg.nm (NV.bl false)]=[Sg.nums 24 y,Sg.nm (NV.bl false)],List.replicate 72 (0:Int)=List.replicate 72 0,(ml x y 63).1=(ml x y 63).1,[Sg.nums 24 (tW x y 63),Sg.nm (NV.bl (tB x y 63))]=[Sg.nums 24 (tW x y 63),Sg.nm (NV.bl (tB x y 63))],[Sg.nm (NV.fn 112 [4,0,3])]=[Sg.nm (NV.fn 112 [4,0,3])],qb true (62-((63:Nat):Int)<0)]) (by kernel_rfl) (hp (rfl) (hp (rfl) (hp (rfl) (hp (rfl) (hp (rfl) (hp (rfl) (hp ((by decide:(62-((63:Nat):Int)<0))) trivial))))))) (by kernel_rfl)
theorem loop (hG:∀u,RowKit.Below S w u->GlobD u):Goes Tryz.prog S 0 w (.block 1 (.loop (lpc Tryz.f58 1))) (mk1 x y 0) .nrm (mke x y):=by
 refine .loop (n:=63) (fun k=>mk1 x y k) (fun k hk=>?_) (end_ hG)
 cases hb:bt k
 ·exact rndf hk hb hG
 ·exact rndt hk hb hG
end
theorem blk0:blkc Tryz.f58 1=.loop (lpc Tryz.f58 1):=by kernel_rfl
theorem lLoop:ConG Tryz.prog GlobD 58 [.p 12,.p 24] G1K.Pre0 (S15D.oP fun x b y c=>S15D.lpA x b y c):=conP lpA_ok (fun _ _ _ _ _=>rfl) (fun x hx b y hy c w hG=>by
 have hG':∀u,RowKit.Below w.heap.size w u->GlobD u:=fun u hu=>hG.keep hu
 cases h1:onB G1K.K1 (G1K.K1.F.int 4) (ptv G1K.K1 x b)
 ·exact fn_outK (N:=9) (XM_ok []) (fun c _ id c' f h=>by rw[hooked_nil] at h;cases h) Tryz.func58 hG' (args:=[.agg [.nums 12 x,.nm (.bl b)],.agg [.nums 24 y,.nm (.bl c)]]) (q:=[false]) (v:=(.tup [.agg [.nums 72 (List.replicate 72 0)],.num .i64 120])) (obs:=[onB G1K.K1 (G1K.K1.F.int 4) (ptv G1K.K1 x b)=false]) 1 (by kernel_rfl) (hp (h1) trivial) (okA2 ⟨hx,trivial,trivial⟩ ⟨hy,trivial,trivial⟩) (by rw[lp_off (by rw[h1];rfl)]) (by simp only[List.map_cons,List.map_nil,G1K.p_den,G2K.p_den,S15D.w_den];try rfl)
 ·cases h2:onB G2K.K2 G2K.bb (ptv G2K.K2 y c)
  ·exact fn_outK (N:=9) (XM_ok []) (fun c _ id c' f h=>by rw[hooked_nil] at h;cases h) Tryz.func58 hG' (args:=[.agg [.nums 12 x,.nm (.bl b)],.agg [.nums 24 y,.nm (.bl c)]]) (q:=[true,false]) (v:=(.tup [.agg [.nums 72 (List.replicate 72 0)],.num .i64 120])) (obs:=[onB G1K.K1 (G1K.K1.F.int 4) (ptv G1K.K1 x b)=true,onB G2K.K2 G2K.bb (ptv G2K.K2 y c)=false]) 1 (by kernel_rfl) (hp (h1) (hp (h2) trivial)) (fun v hv=>by
   simp only[List.mem_cons,List.not_mem_nil,or_false] at hv
   rcases hv with rfl|rfl
   ·exact⟨hx,trivial,trivial⟩
   ·exact⟨hy,trivial,trivial⟩) (by rw[lp_off (by rw[h1,h2];rfl)]) (by simp only[List.map_cons,List.map_nil,G1K.p_den,G2K.p_den,S15D.w_den];try rfl)
  ·cases b
   ·cases c
    ·exact fn_outK (N:=9) (XM_ok [(1,hookEv (mk1 x y 0) (mke x y))]) (fn_hooks (l:=[(1,blkc Tryz.f58 1,hookEv (mk1 x y 0) (mke x y))]) (by kernel_rfl) ⟨by rw[blk0];exact (loop hG').does (by kernel_rfl),trivial⟩) Tryz.func58 hG' (args:=[.agg [.nums 12 x,.nm (.bl false)],.agg [.nums 24 y,.nm (.bl false)]]) (q:=[true,true,false,false]) (v:=(.tup [.agg [.nums 72 (F12 (Fp12.kc (v12 (ml x y 63).1)))],.num .i64 0])) (obs:=[onB G1K.K1 (G1K.K1.F.int 4) (ptv G1K.K1 x false)=true,onB G2K.K2 G2K.bb (ptv G2K.K2 y false)=true,false=false,false=false,AV.fn 114 [3,5,4]=AV.fn 114 [3,5,4],62=62-((0:Nat):Int),[Sg.nums 12 x,Sg.nm (NV.bl false)]=[Sg.nums 12 x,Sg.nm (NV.bl false)],[Sg.nums 24 y,Sg.nm (NV.bl false)]=[Sg.nums 24 y,Sg.nm (NV.bl false)],List.replicate 72 (0:Int)=List.replicate 72 0,[1]++List.replicate 71 0=(ml x y 0).1,[Sg.nums 24 y,Sg.nm (NV.bl false)]=[Sg.nums 24 y,Sg.nm (NV.bl false)],[Sg.nm (NV.fn 112 [4,0,3])]=[Sg.nm (NV.fn 112 [4,0,3])]]) 1 (by kernel_rfl) (hp (h1) (hp (h2) (hp (rfl) (hp (rfl) (hp (rfl) (hp (by decide) (hp (rfl) (hp (rfl) (hp (rfl) (hp (rfl) (hp (rfl) (hp (rfl) trivial)))))))))))) (okA2 ⟨hx,trivial,trivial⟩ ⟨hy,trivial,trivial⟩) (by rw[lp_go (by rw[h1,h2];rfl)]) (by simp only[List.map_cons,List.map_nil,G1K.p_den,G2K.p_den,S15D.w_den];try rfl)
    ·exact fn_outK (N:=9) (XM_ok []) (fun c _ id c' f h=>by rw[hooked_nil] at h;cases h) Tryz.func58 hG' (args:=[.agg [.nums 12 x,.nm (.bl false)],.agg [.nums 24 y,.nm (.bl true)]]) (q:=[true,true,false,true]) (v:=(.tup [.agg [.nums 72 ([1]++List.replicate 71 0)],.num .i64 0])) (obs:=[onB G1K.K1 (G1K.K1.F.int 4) (ptv G1K.K1 x false)=true,onB G2K.K2 G2K.bb (ptv G2K.K2 y true)=true,false=false,true=true]) 1 (by kernel_rfl) (hp (h1) (hp (h2) (hp (rfl) (hp (rfl) trivial)))) (fun v hv=>by
   simp only[List.mem_cons,List.not_mem_nil,or_false] at hv
   rcases hv with rfl|rfl
   ·exact⟨hx,trivial,trivial⟩
   ·exact⟨hy,trivial,trivial⟩) (by rw[lp_one (by rw[h1,h2];rfl) rfl];rfl) (by simp only[List.map_cons,List.map_nil,G1K.p_den,G2K.p_den,S15D.w_den];try rfl)
   ·exact fn_outK (N:=9) (XM_ok []) (fun c _ id c' f h=>by rw[hooked_nil] at h;cases h) Tryz.func58 hG' (args:=[.agg [.nums 12 x,.nm (.bl true)],.agg [.nums 24 y,.nm (.bl c)]]) (q:=[true,true,true]) (v:=(.tup [.agg [.nums 72 ([1]++List.replicate 71 0)],.num .i64 0])) (obs:=[onB G1K.K1 (G1K.K1.F.int 4) (ptv G1K.K1 x true)=true,onB G2K.K2 G2K.bb (ptv G2K.K2 y c)=true,true=true]) 1 (by kernel_rfl) (hp (h1) (hp (h2) (hp (rfl) trivial))) (okA2 ⟨hx,trivial,trivial⟩ ⟨hy,trivial,trivial⟩) (by rw[lp_one (by rw[h1,h2];rfl) rfl];rfl) (by simp only[List.map_cons,List.map_nil,G1K.p_den,G2K.p_den,S15D.w_den];try rfl))
end S15O
end Go.Proofs.YtjamcbjghffboaaGreatDoor
