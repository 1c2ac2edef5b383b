/-
  Own text. Layer 9 by the reckoner: the landed package, the document's answer.
-/
import Derived.Test.YtmohopjblhgdiaaDoorS7
import Derived.Test.YtmohopjblhgdiaaDoorMK
import Derived.Test.YtmohopjblhgdiaaDoorMPt
import Derived.Test.YtmohopjblhgdiaaDoorMCu
import Derived.Test.YtmohopjblhgdiaaDoorSxW
namespace Go.Proofs.YtmohopjblhgdiaaDoor.S9
set_option linter.unusedVariables false
set_option linter.unusedSimpArgs false
open Go Go.RowKit Go.Proofs.YtmohopjblhgdiaaDoor.Reg Go.Proofs.YtmohopjblhgdiaaDoor.Base Go.Proofs.YtmohopjblhgdiaaDoor.Limb Go.Proofs.YtmohopjblhgdiaaDoor.Sx Go.Proofs.YtmohopjblhgdiaaDoor.Fp Go.Proofs.YtmohopjblhgdiaaDoor.Fp2 Go.Proofs.YtmohopjblhgdiaaDoor.Fp6

def L0 : List (Fact Tryd.prog GlobD) := S7.lReduce.fact (.con Tryd.func59 rfl (by decide) S7.lReduce) ::
  S7.lAdd.fact (.con Tryd.func9 rfl (by decide) S7.lAdd) ::
  S7.lSub.fact (.con Tryd.func19 rfl (by decide) S7.lSub) ::
  S7.lNeg.fact (.con Tryd.func12 rfl (by decide) S7.lNeg) ::
  S7.lXi.fact (.con Tryd.func81 rfl (by decide) S7.lXi) ::
  S7.lMul.fact (.con Tryd.func20 rfl (by decide) S7.lMul) ::
  S7.lInv.fact (.con Tryd.func36 rfl (by decide) S7.lInv) ::
  []
def X0 : Cx := .of [] (tb L0)
theorem X0_ok : CxOk Tryd.prog X0 GlobD := cx_ok L0 trivial (by kernel_rfl)
def L1 : List (Fact Tryd.prog GlobD) := ⟨55, entI 55 X0 9, .inline X0_ok GlobD.keep Tryd.func55 rfl (by decide)⟩ ::
  L0
def X1 : Cx := .of [] (tb L1)
theorem X1_ok : CxOk Tryd.prog X1 GlobD := cx_ok L1 trivial (by kernel_rfl)
def L2 : List (Fact Tryd.prog GlobD) := ⟨80, entI 80 X1 9, .inline X1_ok GlobD.keep Tryd.func80 rfl (by decide)⟩ ::
  L1
def X2 : Cx := .of [] (tb L2)
theorem X2_ok : CxOk Tryd.prog X2 GlobD := cx_ok L2 trivial (by kernel_rfl)
set_option maxRecDepth 100000 in
theorem lReduce : Con Tryd.prog GlobD 73 [36] (f1 fun a => W 36 (F6 (v6 a))) := .w1 X1_ok GlobD.keep Tryd.func73 9 (fun _ _ => Fp6.Nm.F6 _) (fun _ _ => rfl) (fun _ => by kernel_rfl)
set_option maxRecDepth 100000 in
theorem lAdd : Con Tryd.prog GlobD 27 [36, 36] (f2 fun a b => W 36 (F6 (Fp6.ha (v6 a) (v6 b)))) := .w2 X1_ok GlobD.keep Tryd.func27 9 (fun _ _ _ _ => Fp6.Nm.F6 _) (fun _ _ _ _ => rfl) (fun _ _ => by kernel_rfl)
set_option maxRecDepth 100000 in
theorem lSub : Con Tryd.prog GlobD 28 [36, 36] (f2 fun a b => W 36 (F6 (Fp6.hs (v6 a) (v6 b)))) := .w2 X1_ok GlobD.keep Tryd.func28 9 (fun _ _ _ _ => Fp6.Nm.F6 _) (fun _ _ _ _ => rfl) (fun _ _ => by kernel_rfl)
set_option maxRecDepth 100000 in
theorem lNeg : Con Tryd.prog GlobD 74 [36] (f1 fun a => W 36 (F6 (Fp6.hn (v6 a)))) := .w1 X1_ok GlobD.keep Tryd.func74 9 (fun _ _ => Fp6.Nm.F6 _) (fun _ _ => rfl) (fun _ => by kernel_rfl)
set_option maxRecDepth 100000 in
theorem lV : Con Tryd.prog GlobD 72 [36] (f1 fun a => W 36 (F6 (Fp6.hv (v6 a)))) := .w1 X1_ok GlobD.keep Tryd.func72 9 (fun _ _ => Fp6.Nm.F6 _) (fun _ _ => rfl) (fun _ => by kernel_rfl)
theorem cross (x y z t : G) : gs (gm (ga x y) (ga z t)) (ga (gm x z) (gm y t)) = ga (gm x t) (gm y z) := by
  obtain ⟨x0, x1⟩ := x; obtain ⟨y0, y1⟩ := y; obtain ⟨z0, z1⟩ := z; obtain ⟨t0, t1⟩ := t
  apply Prod.ext <;> simp only [gs, gm, ga] <;> grind
theorem ga_swap (x y z : G) : ga (ga x z) y = ga (ga x y) z := by rw [ga_assoc, ga_comm z y, ← ga_assoc]
theorem f2l {f : G → G → G} (hf : ∀ {p p' q q' : G}, E2 p p' → E2 q q' → E2 (f p q) (f p' q')) (x : G) (y : G) : F2 (f (v2 (F2 x)) y) = F2 (f x y) := F2_eq (hf (v2_F2 _) E2.rfl)
theorem f2r {f : G → G → G} (hf : ∀ {p p' q q' : G}, E2 p p' → E2 q q' → E2 (f p q) (f p' q')) (x : G) (y : G) : F2 (f x (v2 (F2 y))) = F2 (f x y) := F2_eq (hf E2.rfl (v2_F2 _))
theorem al (x y : G) : F2 (ga (v2 (F2 x)) y) = F2 (ga x y) := f2l ga_congr x y
theorem ar (x y : G) : F2 (ga x (v2 (F2 y))) = F2 (ga x y) := f2r ga_congr x y
theorem sl (x y : G) : F2 (gs (v2 (F2 x)) y) = F2 (gs x y) := f2l gs_congr x y
theorem sr (x y : G) : F2 (gs x (v2 (F2 y))) = F2 (gs x y) := f2r gs_congr x y
theorem ml (x y : G) : F2 (gm (v2 (F2 x)) y) = F2 (gm x y) := f2l gm_congr x y
theorem mr (x y : G) : F2 (gm x (v2 (F2 y))) = F2 (gm x y) := f2r gm_congr x y
theorem z2 : v2 [0, 0, 0, 0, 0, 0, 0, 0, 0, 0, 0, 0] = (0, 0) := by decide
theorem f6 {p q r x y z : G} (h1 : p = x) (h2 : q = y) (h3 : r = z) : F2 p ++ F2 q ++ F2 r = F6 (x, y, z) := by subst h1 h2 h3; rfl
theorem lmul_v (a b : List Int) : F2 (ga (v2 (F2 (gm (v2 (seg 0 12 a)) (v2 (seg 0 12 b))))) (v2 (F2 (gm (v2 (F2 (gs (v2 (F2 (gm (v2 (F2 (ga (v2 (seg 12 12 a)) (v2 (seg 24 12 a))))) (v2 (F2 (ga (v2 (seg 12 12 b)) (v2 (seg 24 12 b)))))))) (v2 (F2 (ga (v2 (F2 (gm (v2 (seg 12 12 a)) (v2 (seg 12 12 b))))) (v2 (F2 (gm (v2 (seg 24 12 a)) (v2 (seg 24 12 b))))))))))) (1, 1))))) ++ F2 (ga (v2 (F2 (gs (v2 (F2 (gm (v2 (F2 (ga (v2 (seg 0 12 a)) (v2 (seg 12 12 a))))) (v2 (F2 (ga (v2 (seg 0 12 b)) (v2 (seg 12 12 b)))))))) (v2 (F2 (ga (v2 (F2 (gm (v2 (seg 0 12 a)) (v2 (seg 0 12 b))))) (v2 (F2 (gm (v2 (seg 12 12 a)) (v2 (seg 12 12 b))))))))))) (v2 (F2 (gm (v2 (F2 (gm (v2 (seg 24 12 a)) (v2 (seg 24 12 b))))) (1, 1))))) ++ F2 (ga (v2 (F2 (gs (v2 (F2 (gm (v2 (F2 (ga (v2 (seg 0 12 a)) (v2 (seg 24 12 a))))) (v2 (F2 (ga (v2 (seg 0 12 b)) (v2 (seg 24 12 b)))))))) (v2 (F2 (ga (v2 (F2 (gm (v2 (seg 0 12 a)) (v2 (seg 0 12 b))))) (v2 (F2 (gm (v2 (seg 24 12 a)) (v2 (seg 24 12 b))))))))))) (v2 (F2 (gm (v2 (seg 12 12 a)) (v2 (seg 12 12 b)))))) = F6 (Fp6.hm (v6 a) (v6 b)) := by
  simp only [al, ar, sl, sr, ml, mr]
  rw [cross, cross, cross]
  exact f6 rfl rfl (ga_swap _ _ _)
set_option maxRecDepth 100000 in
theorem lMul : Con Tryd.prog GlobD 71 [36, 36] (f2 fun a b => W 36 (F6 (Fp6.hm (v6 a) (v6 b)))) := .w2 X2_ok GlobD.keep Tryd.func71 9 (fun _ _ _ _ => Fp6.Nm.F6 _) (fun _ _ _ _ => lmul_v _ _) (fun _ _ => by kernel_rfl)
def L3 : List (Fact Tryd.prog GlobD) := lReduce.fact (.con Tryd.func73 rfl (by decide) lReduce) ::
  lAdd.fact (.con Tryd.func27 rfl (by decide) lAdd) ::
  lSub.fact (.con Tryd.func28 rfl (by decide) lSub) ::
  lNeg.fact (.con Tryd.func74 rfl (by decide) lNeg) ::
  lV.fact (.con Tryd.func72 rfl (by decide) lV) ::
  lMul.fact (.con Tryd.func71 rfl (by decide) lMul) ::
  L1
def X3 : Cx := .of [] (tb L3)
theorem X3_ok : CxOk Tryd.prog X3 GlobD := cx_ok L3 trivial (by kernel_rfl)
def L4 : List (Fact Tryd.prog GlobD) := L3
def X4 : Cx := .of [] (tb L4)
theorem X4_ok : CxOk Tryd.prog X4 GlobD := cx_ok L4 trivial (by kernel_rfl)
def V1 : List Int := List.replicate 12 0 ++ [1] ++ List.replicate 23 0
def L5 : List (Fact Tryd.prog GlobD) := L0
def X5 : Cx := .of [] (tb L5)
theorem X5_ok : CxOk Tryd.prog X5 GlobD := cx_ok L5 trivial (by kernel_rfl)
end Go.Proofs.YtmohopjblhgdiaaDoor.S9

/-
  Own text. Layer 10 by the reckoner: the landed package, the document's answer.
-/
namespace Go.Proofs.YtmohopjblhgdiaaDoor.S10
set_option linter.unusedVariables false
set_option linter.unusedSimpArgs false
open Go Go.RowKit Go.Proofs.YtmohopjblhgdiaaDoor.Reg Go.Proofs.YtmohopjblhgdiaaDoor.Base Go.Proofs.YtmohopjblhgdiaaDoor.Limb Go.Proofs.YtmohopjblhgdiaaDoor.Sx Go.Proofs.YtmohopjblhgdiaaDoor.Fp Go.Proofs.YtmohopjblhgdiaaDoor.Fp2 Go.Proofs.YtmohopjblhgdiaaDoor.Fp6 Go.Proofs.YtmohopjblhgdiaaDoor.Fp12

def L0 : List (Fact Tryd.prog GlobD) := S9.lReduce.fact (.con Tryd.func73 rfl (by decide) S9.lReduce) ::
  S9.lAdd.fact (.con Tryd.func27 rfl (by decide) S9.lAdd) ::
  S9.lSub.fact (.con Tryd.func28 rfl (by decide) S9.lSub) ::
  S9.lNeg.fact (.con Tryd.func74 rfl (by decide) S9.lNeg) ::
  S9.lV.fact (.con Tryd.func72 rfl (by decide) S9.lV) ::
  S9.lMul.fact (.con Tryd.func71 rfl (by decide) S9.lMul) ::
  []
def X0 : Cx := .of [] (tb L0)
theorem X0_ok : CxOk Tryd.prog X0 GlobD := cx_ok L0 trivial (by kernel_rfl)
theorem hl {f : H → H → H} (hf : ∀ {p p' q q' : H}, E6 p p' → E6 q q' → E6 (f p q) (f p' q')) (x y : H) : F6 (f (v6 (F6 x)) y) = F6 (f x y) := F6_eq (hf (v6_F6 _) E6.rfl)
theorem hr {f : H → H → H} (hf : ∀ {p p' q q' : H}, E6 p p' → E6 q q' → E6 (f p q) (f p' q')) (x y : H) : F6 (f x (v6 (F6 y))) = F6 (f x y) := F6_eq (hf E6.rfl (v6_F6 _))
theorem hal (x y : H) : F6 (Fp6.ha (v6 (F6 x)) y) = F6 (Fp6.ha x y) := hl ha_congr x y
theorem har (x y : H) : F6 (Fp6.ha x (v6 (F6 y))) = F6 (Fp6.ha x y) := hr ha_congr x y
theorem hsl (x y : H) : F6 (Fp6.hs (v6 (F6 x)) y) = F6 (Fp6.hs x y) := hl hs_congr x y
theorem hsr (x y : H) : F6 (Fp6.hs x (v6 (F6 y))) = F6 (Fp6.hs x y) := hr hs_congr x y
theorem hml (x y : H) : F6 (Fp6.hm (v6 (F6 x)) y) = F6 (Fp6.hm x y) := hl hm_congr x y
theorem hmr (x y : H) : F6 (Fp6.hm x (v6 (F6 y))) = F6 (Fp6.hm x y) := hr hm_congr x y
theorem hv_ (x : H) : F6 (Fp6.hv (v6 (F6 x))) = F6 (Fp6.hv x) := F6_eq ⟨gx_congr (v6_F6 x).2.2, (v6_F6 x).1, (v6_F6 x).2.1⟩
theorem f12 {p q x y : H} (h1 : p = x) (h2 : q = y) : F6 p ++ F6 q = F12 (x, y) := by subst h1 h2; rfl
theorem hcross (x y z t : H) : Fp6.hs (Fp6.hm (Fp6.ha x y) (Fp6.ha z t)) (Fp6.ha (Fp6.hm x z) (Fp6.hm y t)) = Fp6.ha (Fp6.hm x t) (Fp6.hm y z) := by
  rw [hm_ha, Fp12.ha_hm, Fp12.ha_hm]
  generalize Fp6.hm x z = p; generalize Fp6.hm y t = q; generalize Fp6.hm x t = r; generalize Fp6.hm y z = s
  obtain ⟨⟨a0, a1⟩, ⟨b0, b1⟩, c0, c1⟩ := p
  obtain ⟨⟨d0, d1⟩, ⟨e0, e1⟩, f0, f1⟩ := q
  obtain ⟨⟨g0, g1⟩, ⟨h0, h1⟩, i0, i1⟩ := r
  obtain ⟨⟨j0, j1⟩, ⟨k0, k1⟩, l0, l1⟩ := s
  simp only [Fp6.hs, Fp6.ha, gs, ga, Prod.mk.injEq]
  omega
def L1 : List (Fact Tryd.prog GlobD) := L0
def X1 : Cx := .of [] (tb L1)
theorem X1_ok : CxOk Tryd.prog X1 GlobD := cx_ok L1 trivial (by kernel_rfl)
set_option maxRecDepth 100000 in
theorem qOne : Con Tryd.prog GlobD 16 [] (f0 (W 72 O72)) := .of0 X0_ok GlobD.keep Tryd.func16 9 [] (zs := W 72 O72) (obs := []) (w_ok nm_O72) rfl ⟨rfl, trivial⟩ (by kernel_rfl)
set_option maxRecDepth 100000 in
theorem lAdd : Con Tryd.prog GlobD 10 [72, 72] (f2 fun a b => W 72 (F12 (Fp12.ka (v12 a) (v12 b)))) := .w2 X0_ok GlobD.keep Tryd.func10 9 (fun _ _ _ _ => Fp12.Nm.F12 _) (fun _ _ _ _ => rfl) (fun _ _ => by kernel_rfl)
set_option maxRecDepth 100000 in
theorem lSub : Con Tryd.prog GlobD 11 [72, 72] (f2 fun a b => W 72 (F12 (Fp12.ks (v12 a) (v12 b)))) := .w2 X0_ok GlobD.keep Tryd.func11 9 (fun _ _ _ _ => Fp12.Nm.F12 _) (fun _ _ _ _ => rfl) (fun _ _ => by kernel_rfl)
set_option maxRecDepth 100000 in
theorem lConj : Con Tryd.prog GlobD 52 [72] (f1 fun a => W 72 (F12 (Fp12.kc (v12 a)))) := .w1 X0_ok GlobD.keep Tryd.func52 9 (fun _ _ => Fp12.Nm.F12 _) (fun _ _ => rfl) (fun _ => by kernel_rfl)
def L2 : List (Fact Tryd.prog GlobD) := ⟨70, entI 70 X0 9, .inline X0_ok GlobD.keep Tryd.func70 rfl (by decide)⟩ ::
  L0
def X2 : Cx := .of [] (tb L2)
theorem X2_ok : CxOk Tryd.prog X2 GlobD := cx_ok L2 trivial (by kernel_rfl)
theorem lmul_v (a b : List Int) : F6 (Fp6.ha (v6 (F6 (Fp6.hm (v6 (seg 0 36 a)) (v6 (seg 0 36 b))))) (v6 (F6 (Fp6.hv (v6 (F6 (Fp6.hm (v6 (seg 36 36 a)) (v6 (seg 36 36 b))))))))) ++ F6 (Fp6.hs (v6 (F6 (Fp6.hm (v6 (F6 (Fp6.ha (v6 (seg 0 36 a)) (v6 (seg 36 36 a))))) (v6 (F6 (Fp6.ha (v6 (seg 0 36 b)) (v6 (seg 36 36 b)))))))) (v6 (F6 (Fp6.ha (v6 (F6 (Fp6.hm (v6 (seg 0 36 a)) (v6 (seg 0 36 b))))) (v6 (F6 (Fp6.hm (v6 (seg 36 36 a)) (v6 (seg 36 36 b))))))))) = F12 (Fp12.km (v12 a) (v12 b)) := by
  simp only [hal, har, hsl, hsr, hml, hmr, hv_]
  exact f12 rfl (hcross _ _ _ _)
set_option maxRecDepth 100000 in
theorem lMul : Con Tryd.prog GlobD 50 [72, 72] (f2 fun a b => W 72 (F12 (Fp12.km (v12 a) (v12 b)))) := .w2 X2_ok GlobD.keep Tryd.func50 9 (fun _ _ _ _ => Fp12.Nm.F12 _) (fun _ _ _ _ => lmul_v _ _) (fun _ _ => by kernel_rfl)
def L3 : List (Fact Tryd.prog GlobD) := lAdd.fact (.con Tryd.func10 rfl (by decide) lAdd) ::
  lSub.fact (.con Tryd.func11 rfl (by decide) lSub) ::
  lConj.fact (.con Tryd.func52 rfl (by decide) lConj) ::
  lMul.fact (.con Tryd.func50 rfl (by decide) lMul) ::
  L1
def X3 : Cx := .of [(35, 72)] (tb L3)
theorem X3_ok : CxOk Tryd.prog X3 GlobD := cx_ok L3 ⟨⟨eqokk, gdk⟩, trivial⟩ (by kernel_rfl)
end Go.Proofs.YtmohopjblhgdiaaDoor.S10

/-
  Own text. The line of a sum's slope goes through both points, and through the sum's opposite. Speaks of no program.
-/
namespace Go.Proofs.YtmohopjblhgdiaaDoor.Pts
set_option linter.unusedVariables false
set_option linter.unusedSectionVars false
set_option maxRecDepth 100000
open Go Go.RowKit Go.Proofs.YtmohopjblhgdiaaDoor.Reg Go.Proofs.YtmohopjblhgdiaaDoor.Base Go.Proofs.YtmohopjblhgdiaaDoor.Limb Go.Proofs.YtmohopjblhgdiaaDoor.Fp2 Go.Proofs.YtmohopjblhgdiaaDoor.Ec Go.Proofs.YtmohopjblhgdiaaDoor.Ring
section
variable {α : Type} (F : Go.Proofs.YtmohopjblhgdiaaDoor.Ec.Fd α)
theorem ln_two {l x1 y1 x2 y2 : α} (h3 : F.Z (F.sub (F.sub y1 y2) (F.mul l (F.sub x1 x2)))) : F.Z (F.sub (F.sub (F.mul l x1) y1) (F.sub (F.mul l x2) y2)) := F.Z_by (fun k_ => match k_ with | 0 => l | 1 => x1 | 2 => y1 | 3 => x2 | 4 => y2 | _ => l) (e := (.s (.s (.m (.v 0) (.v 1)) (.v 2)) (.s (.m (.v 0) (.v 3)) (.v 4)))) (f := (.m (.n (-1)) (.s (.s (.v 2) (.v 4)) (.m (.v 0) (.s (.v 1) (.v 3)))))) (by decide +kernel) (F.zm' _ h3)
theorem ln_three {l x1 y1 x3 : α}  : F.Z (F.sub (F.add (F.mul l x3) (F.sub (F.mul l (F.sub x1 x3)) y1)) (F.sub (F.mul l x1) y1)) := F.Z_by (fun k_ => match k_ with | 0 => l | 1 => x1 | 2 => y1 | 3 => l | 4 => l | _ => x3) (e := (.s (.a (.m (.v 0) (.v 5)) (.s (.m (.v 0) (.s (.v 1) (.v 5))) (.v 2))) (.s (.m (.v 0) (.v 1)) (.v 2)))) (f := (.n 0)) (by decide +kernel) F.z0
end
section
variable {α : Type} (K : Nk α) {c0 c2 c3 : List Int} (h2 : K.va c2 = K.F.int 2) (h3 : K.va c3 = K.F.int 3) (h0 : K.wo (K.F.int 0) = c0) {x y : List Int}
/-- The line goes through both points. -/
theorem ln_both (h : (slF K c0 c2 c3 x y).2 = true) : K.F.eq (K.F.sub (K.F.mul (K.va (slF K c0 c2 c3 x y).1) (K.va (seg 0 K.n x))) (K.va (seg K.n K.n x))) (K.F.sub (K.F.mul (K.va (slF K c0 c2 c3 x y).1) (K.va (seg 0 K.n y))) (K.va (seg K.n K.n y))) := by
  unfold slF at h ⊢
  split at h
  · rename_i hx
    split at h
    · rename_i hy
      exact sub_eq K (K.F.mul_eq (K.F.refl _) (K.eq_wo hx)) (K.eq_wo hy.1)
    · cases h
  · rename_i hx
    simp only [if_neg hx]
    rw [slC_ok]
    have e := K.va_wo (slC K.F (K.va (seg 0 K.n x)) (K.va (seg K.n K.n x)) (K.va (seg 0 K.n y)) (K.va (seg K.n K.n y)))
    have hn : ¬ K.F.Z (K.F.sub (K.va (seg 0 K.n y)) (K.va (seg 0 K.n x))) := fun k => hx (K.wo_eq (K.F.symm k))
    have h3 := ad_c3 (x1 := K.va (seg 0 K.n x)) (y1 := K.va (seg K.n K.n x)) (y2 := K.va (seg K.n K.n y)) K.F (K.F.zi hn)
    have k := ln_two K.F h3
    exact K.F.trans (sub_eq K (K.F.mul_eq e (K.F.refl _)) (K.F.refl _)) (K.F.trans k (K.F.symm (sub_eq K (K.F.mul_eq e (K.F.refl _)) (K.F.refl _))))
include h0 h2 h3 in
/-- The sum: a point, whose opposite is on the line. -/
theorem ln_sum (h : (slF K c0 c2 c3 x y).2 = true) : ∃ u v, addP K.F (ptv K x false) (ptv K y false) = some (u, v) ∧ K.F.eq (K.F.add (K.F.mul (K.va (slF K c0 c2 c3 x y).1) u) v) (K.F.sub (K.F.mul (K.va (slF K c0 c2 c3 x y).1) (K.va (seg 0 K.n x))) (K.va (seg K.n K.n x))) := by
  have key : ∀ l L, K.F.eq L l → ∃ u v, trd K.F l (K.va (seg 0 K.n x)) (K.va (seg K.n K.n x)) (K.va (seg 0 K.n y)) = some (u, v) ∧ K.F.eq (K.F.add (K.F.mul L u) v) (K.F.sub (K.F.mul L (K.va (seg 0 K.n x))) (K.va (seg K.n K.n x))) := fun l L e => by
    refine ⟨_, _, rfl, ?_⟩
    exact K.F.trans (K.F.add_eq (K.F.mul_eq e (K.F.refl _)) (K.F.refl _)) (K.F.trans (ln_three K.F) (K.F.symm (sub_eq K (K.F.mul_eq e (K.F.refl _)) (K.F.refl _))))
  rw [ptv_f, ptv_f, addP]
  unfold slF at h ⊢
  split at h
  · rename_i hx
    simp only [if_pos hx]
    rw [if_pos (show K.F.Z (K.F.sub (K.va (seg 0 K.n x)) (K.va (seg 0 K.n y))) from K.eq_wo hx)]
    split at h
    · rename_i hy
      simp only [if_pos hy]
      rw [if_pos ⟨K.eq_wo hy.1, fun e => hy.2 (((wo_z K).2 e).trans h0)⟩, slT_ok K h2 h3]
      exact key _ _ (K.va_wo _)
    · cases h
  · rename_i hx
    simp only [if_neg hx]
    rw [if_neg (show ¬ K.F.Z (K.F.sub (K.va (seg 0 K.n x)) (K.va (seg 0 K.n y))) from fun e => hx (K.wo_eq e)), slC_ok]
    exact key _ _ (K.va_wo _)
end
end Go.Proofs.YtmohopjblhgdiaaDoor.Pts

/-
  Own text. Layer 15: numbers of lines; the shapes of contracts.
-/
namespace Go.Proofs.YtmohopjblhgdiaaDoor.S15D
set_option linter.unusedVariables false
set_option linter.unusedSimpArgs false
open Go Go.RowKit Go.Proofs.YtmohopjblhgdiaaDoor.Reg Go.Proofs.YtmohopjblhgdiaaDoor.Base Go.Proofs.YtmohopjblhgdiaaDoor.Limb Go.Proofs.YtmohopjblhgdiaaDoor.Sx Go.Proofs.YtmohopjblhgdiaaDoor.Fp Go.Proofs.YtmohopjblhgdiaaDoor.Fp2 Go.Proofs.YtmohopjblhgdiaaDoor.Fp6 Go.Proofs.YtmohopjblhgdiaaDoor.Fp12 Go.Proofs.YtmohopjblhgdiaaDoor.Ec Go.Proofs.YtmohopjblhgdiaaDoor.Pts

/-- The number of a line: by its slope, a point of the twisted curve, a point of the base curve. -/
def LN (s x y : Fp2.G) (p q : Int) : Fp12.K := ((gs (gm s x) y, gn (gk s p), (0, 0)), ((0, 0), (q, 0), (0, 0)))
def lnW (s x y : List Int) : List Int := F12 (LN (v2 s) (v2 (seg 0 12 x)) (v2 (seg 12 12 x)) (num (seg 0 6 y)) (num (seg 6 6 y)))
/-- That of two points whose sum is infinity. -/
def VN (x : Fp2.G) (p : Int) : Fp12.K := ((x, (-p, 0), (0, 0)), ((0, 0), (0, 0), (0, 0)))
def vtW (x y : List Int) : List Int := F12 (VN (v2 (seg 0 12 x)) (num (seg 0 6 y)))
abbrev sl (x y : List Int) : List Int × Bool := slF G2K.K2 G2K.c0 G2K.c2 G2K.c3 x y
/-- A step's number. -/
def stW (x : List Int) (b : Bool) (y : List Int) (c : Bool) (z : List Int) (d : Bool) : List Int :=
  if (d || b || c) = true then O72 else if (sl x y).2 = true then lnW (sl x y).1 x z else vtW x z
theorem nm_stW (x : List Int) (b : Bool) (y : List Int) (c : Bool) (z : List Int) (d : Bool) : Nm 72 (stW x b y c z d) := by
  unfold stW
  split
  · exact nm_O72
  · split
    · exact Fp12.Nm.F12 _
    · exact Fp12.Nm.F12 _
theorem F2_z : F2 (0, 0) = List.replicate 12 0 := by decide +kernel
theorem fe_z : Fp.fe 0 = List.replicate 6 0 := by decide +kernel
theorem F2_r (p : Int) : F2 (p, 0) = Fp.fe p ++ List.replicate 6 0 := by rw [F2, fe_z]
/-- As the words come. -/
theorem ln_raw (s x y : List Int) : F2 (gs (v2 (F2 (gm (v2 s) (v2 (seg 0 12 x))))) (v2 (seg 12 12 x))) ++ F2 (gn (v2 (F2 (gk (v2 s) (num (seg 0 6 y)))))) ++ List.replicate 12 0 ++ List.replicate 12 0 ++ Fp.fe (num (seg 6 6 y)) ++ List.replicate 6 0 ++ List.replicate 12 0 = lnW s x y := by
  rw [F2_eq (gs_congr (v2_F2 (gm (v2 s) (v2 (seg 0 12 x)))) E2.rfl), F2_eq (gn_congr (v2_F2 (gk (v2 s) (num (seg 0 6 y)))))]
  show _ = (F2 _ ++ F2 _ ++ F2 (0, 0)) ++ (F2 (0, 0) ++ F2 (_, 0) ++ F2 (0, 0))
  rw [F2_z, F2_r]
  simp only [List.append_assoc]
  rfl
theorem vt_raw (x y : List Int) : F2 (v2 (seg 0 12 x)) ++ Fp.fe (-num (seg 0 6 y)) ++ List.replicate 6 0 ++ List.replicate 12 0 ++ List.replicate 36 0 = vtW x y := by
  show _ = (F2 _ ++ F2 (_, 0) ++ F2 (0, 0)) ++ (F2 (0, 0) ++ F2 (0, 0) ++ F2 (0, 0))
  rw [F2_z, F2_r, show List.replicate 36 (0 : Int) = List.replicate 12 0 ++ List.replicate 12 0 ++ List.replicate 12 0 from rfl]
  simp only [List.append_assoc]
  rfl
section
variable {x y z : List Int} {b c d : Bool}
theorem st_one (h : (d || b || c) = true) : stW x b y c z d = O72 := if_pos h
theorem st_vt (h : (sl x y).2 = false) : stW x false y false z false = vtW x z := (if_neg (by decide)).trans (if_neg (by rw [h]; decide))
theorem st_ln (h : (sl x y).2 = true) : stW x false y false z false = lnW (sl x y).1 x z := (if_neg (by decide)).trans (if_pos h)
end
theorem w_den {n : Nat} {x : List Int} {gs : List Nat} : (AV.agg [.nums n x]).den gs = .agg (vals .u64 x) := den_nums
/-- A sum, and a step's number. -/
def stA (x : List Int) (b : Bool) (y : List Int) (c : Bool) (z : List Int) (d : Bool) : AV := .tup [.agg [.nums 24 (ptW G2K.K2 (addP G2K.K2.F (ptv G2K.K2 x b) (ptv G2K.K2 y c))), .nm (.bl (ptB (addP G2K.K2.F (ptv G2K.K2 x b) (ptv G2K.K2 y c))))], .agg [.nums 72 (stW x b y c z d)]]
theorem stA_ok (x : List Int) (b : Bool) (y : List Int) (c : Bool) (z : List Int) (d : Bool) (n : Nat) : (stA x b y c z d).Ok n := ⟨⟨nm_ptW G2K.K2 _, trivial, trivial⟩, ⟨nm_stW _ _ _ _ _ _, trivial⟩, trivial⟩
theorem stA_den (x : List Int) (b : Bool) (y : List Int) (c : Bool) (z : List Int) (d : Bool) (gs : List Nat) : (stA x b y c z d).den gs = (stA x b y c z d).den [] := rfl
/-- Which rounds add. -/
abbrev dk (k : Nat) : Int := 15132376222941642752 / 2 ^ (62 - (k : Int)).toNat
def bt (k : Nat) : Bool := decide (dk k % 2 = 1)
theorem dk_in (k : Nat) : 0 ≤ dk k ∧ dk k ≤ 15132376222941642752 := ⟨Int.ediv_nonneg (by decide) (Int.le_of_lt (Int.pow_pos (by decide))), Int.ediv_le_self _ (by decide)⟩
abbrev sqW (f : List Int) : List Int := F12 (Fp12.km (v12 f) (v12 f))
abbrev muW (f l : List Int) : List Int := F12 (Fp12.km (v12 f) (v12 l))
/-- The number, and the point, behind so many rounds. -/
def ml (x y : List Int) : Nat → List Int × Pt Fp2.G
  | 0 => (O72, ptv G2K.K2 y false)
  | k + 1 =>
    let s := ml x y k
    let f1 := muW (sqW s.1) (stW (ptW G2K.K2 s.2) (ptB s.2) (ptW G2K.K2 s.2) (ptB s.2) x false)
    let t1 := addP G2K.K2.F (vo G2K.K2 s.2) (vo G2K.K2 s.2)
    if bt k = true then (muW f1 (stW (ptW G2K.K2 t1) (ptB t1) y false x false), addP G2K.K2.F (vo G2K.K2 t1) (ptv G2K.K2 y false)) else (f1, t1)
theorem ml_t {x y : List Int} {k : Nat} (h : bt k = true) : ml x y (k + 1) = (muW (muW (sqW (ml x y k).1) (stW (ptW G2K.K2 (ml x y k).2) (ptB (ml x y k).2) (ptW G2K.K2 (ml x y k).2) (ptB (ml x y k).2) x false)) (stW (ptW G2K.K2 (addP G2K.K2.F (vo G2K.K2 (ml x y k).2) (vo G2K.K2 (ml x y k).2))) (ptB (addP G2K.K2.F (vo G2K.K2 (ml x y k).2) (vo G2K.K2 (ml x y k).2))) y false x false), addP G2K.K2.F (vo G2K.K2 (addP G2K.K2.F (vo G2K.K2 (ml x y k).2) (vo G2K.K2 (ml x y k).2))) (ptv G2K.K2 y false)) := by
  rw [ml]
  exact if_pos h
theorem ml_f {x y : List Int} {k : Nat} (h : bt k = false) : ml x y (k + 1) = (muW (sqW (ml x y k).1) (stW (ptW G2K.K2 (ml x y k).2) (ptB (ml x y k).2) (ptW G2K.K2 (ml x y k).2) (ptB (ml x y k).2) x false), addP G2K.K2.F (vo G2K.K2 (ml x y k).2) (vo G2K.K2 (ml x y k).2)) := by
  rw [ml]
  exact if_neg (by rw [h]; decide)
/-- What Loop answers. -/
def lpW (x : List Int) (b : Bool) (y : List Int) (c : Bool) : List Int := if (onB G1K.K1 (G1K.K1.F.int 4) (ptv G1K.K1 x b) && onB G2K.K2 G2K.bb (ptv G2K.K2 y c)) = true then (if (b || c) = true then O72 else F12 (Fp12.kc (v12 (ml x y 63).1))) else List.replicate 72 0
theorem nm_lpW (x : List Int) (b : Bool) (y : List Int) (c : Bool) : Nm 72 (lpW x b y c) := by
  unfold lpW
  split
  · split
    · exact nm_O72
    · exact Fp12.Nm.F12 _
  · exact ⟨rfl, words_zeros 72⟩
def lpA (x : List Int) (b : Bool) (y : List Int) (c : Bool) : AV := .tup [.agg [.nums 72 (lpW x b y c)], .num .i64 (if (onB G1K.K1 (G1K.K1.F.int 4) (ptv G1K.K1 x b) && onB G2K.K2 G2K.bb (ptv G2K.K2 y c)) = true then 0 else 120)]
section
variable {x y : List Int} {b c : Bool}
theorem lp_off (h : (onB G1K.K1 (G1K.K1.F.int 4) (ptv G1K.K1 x b) && onB G2K.K2 G2K.bb (ptv G2K.K2 y c)) = false) : lpA x b y c = .tup [.agg [.nums 72 (List.replicate 72 0)], .num .i64 120] := by
  rw [lpA, lpW, if_neg (by rw [h]; decide), if_neg (by rw [h]; decide)]
theorem lp_one (h : (onB G1K.K1 (G1K.K1.F.int 4) (ptv G1K.K1 x b) && onB G2K.K2 G2K.bb (ptv G2K.K2 y c)) = true) (h2 : (b || c) = true) : lpA x b y c = .tup [.agg [.nums 72 O72], .num .i64 0] := by
  rw [lpA, lpW, if_pos h, if_pos h, if_pos h2]
theorem lp_go (h : (onB G1K.K1 (G1K.K1.F.int 4) (ptv G1K.K1 x false) && onB G2K.K2 G2K.bb (ptv G2K.K2 y false)) = true) : lpA x false y false = .tup [.agg [.nums 72 (F12 (Fp12.kc (v12 (ml x y 63).1)))], .num .i64 0] := by
  rw [lpA, lpW, if_pos h, if_pos h, if_neg (by decide)]
end
theorem lpA_ok (x : List Int) (b : Bool) (y : List Int) (c : Bool) (n : Nat) : (lpA x b y c).Ok n := ⟨⟨nm_lpW _ _ _ _, trivial⟩, trivial, trivial⟩
def oL (f : List Int → List Int → Bool → List Int → Bool → AV) : List AA → AV
  | [.w s, .p x b, .p y c] => f s x b y c
  | _ => .unk
def oS (f : List Int → Bool → List Int → Bool → List Int → Bool → AV) : List AA → AV
  | [.p x b, .p y c, .p z d] => f x b y c z d
  | _ => .unk
def oP (f : List Int → Bool → List Int → Bool → AV) : List AA → AV
  | [.p x b, .p y c] => f x b y c
  | _ => .unk
section
variable {P : Program} {G : World → Prop} {F : FuncId}
theorem conL {f : List Int → List Int → Bool → List Int → Bool → AV} (h0 : ∀ s x b y c n, (f s x b y c).Ok n) (h1 : ∀ s x b y c gs, (f s x b y c).den gs = (f s x b y c).den []) (h : ∀ s, Nm 12 s → ∀ x, Nm 24 x → ∀ b y, Nm 12 y → ∀ c w, G w → Calls P F #[.agg (vals .u64 s), .agg (vals .u64 x ++ #[.bool b]), .agg (vals .u64 y ++ #[.bool c])] w fun e w' => e = .returned ((f s x b y c).den []) ∧ RowKit.Below w.heap.size w w') : ConG P G F [.w 12, .p 24, .p 12] G1K.Pre0 (oL f) := by
  intro l hl _
  match l, hl with
  | [.w s, .p x b, .p y c], ⟨hs, hx, hy, _⟩ =>
    refine ⟨h0 s x b y c, h1 s x b y c, fun w hG vs hv => ?_⟩
    match vs, hv with
    | [r, v, u], ⟨hr, hv, hu, _⟩ =>
      obtain rfl := hr
      obtain rfl := hv
      obtain rfl := hu
      exact h s hs x hx b y hy c w hG
theorem conS {f : List Int → Bool → List Int → Bool → List Int → Bool → AV} (h0 : ∀ x b y c z d n, (f x b y c z d).Ok n) (h1 : ∀ x b y c z d gs, (f x b y c z d).den gs = (f x b y c z d).den []) (h : ∀ x, Nm 24 x → ∀ b y, Nm 24 y → ∀ c z, Nm 12 z → ∀ d w, G w → Calls P F #[.agg (vals .u64 x ++ #[.bool b]), .agg (vals .u64 y ++ #[.bool c]), .agg (vals .u64 z ++ #[.bool d])] w fun e w' => e = .returned ((f x b y c z d).den []) ∧ RowKit.Below w.heap.size w w') : ConG P G F [.p 24, .p 24, .p 12] G1K.Pre0 (oS f) := by
  intro l hl _
  match l, hl with
  | [.p x b, .p y c, .p z d], ⟨hx, hy, hz, _⟩ =>
    refine ⟨h0 x b y c z d, h1 x b y c z d, fun w hG vs hv => ?_⟩
    match vs, hv with
    | [r, v, u], ⟨hr, hv, hu, _⟩ =>
      obtain rfl := hr
      obtain rfl := hv
      obtain rfl := hu
      exact h x hx b y hy c z hz d w hG
theorem conP {f : List Int → Bool → List Int → Bool → AV} (h0 : ∀ x b y c n, (f x b y c).Ok n) (h1 : ∀ x b y c gs, (f x b y c).den gs = (f x b y c).den []) (h : ∀ x, Nm 12 x → ∀ b y, Nm 24 y → ∀ c w, G w → Calls P F #[.agg (vals .u64 x ++ #[.bool b]), .agg (vals .u64 y ++ #[.bool c])] w fun e w' => e = .returned ((f x b y c).den []) ∧ RowKit.Below w.heap.size w w') : ConG P G F [.p 12, .p 24] G1K.Pre0 (oP f) := by
  intro l hl _
  match l, hl with
  | [.p x b, .p y c], ⟨hx, hy, _⟩ =>
    refine ⟨h0 x b y c, h1 x b y c, fun w hG vs hv => ?_⟩
    match vs, hv with
    | [v, u], ⟨hv, hu, _⟩ =>
      obtain rfl := hv
      obtain rfl := hu
      exact h x hx b y hy c w hG
end
end Go.Proofs.YtmohopjblhgdiaaDoor.S15D

/-
  Own text. Layer 15: what its statements compare. Speaks of no program.
-/
namespace Go.Proofs.YtmohopjblhgdiaaDoor.S15N
set_option linter.unusedVariables false
set_option linter.unusedSimpArgs false
open Go Go.RowKit Go.Proofs.YtmohopjblhgdiaaDoor.Reg Go.Proofs.YtmohopjblhgdiaaDoor.Base Go.Proofs.YtmohopjblhgdiaaDoor.Limb Go.Proofs.YtmohopjblhgdiaaDoor.Sx Go.Proofs.YtmohopjblhgdiaaDoor.Fp Go.Proofs.YtmohopjblhgdiaaDoor.Fp2 Go.Proofs.YtmohopjblhgdiaaDoor.Fp6 Go.Proofs.YtmohopjblhgdiaaDoor.Fp12 Go.Proofs.YtmohopjblhgdiaaDoor.Ec Go.Proofs.YtmohopjblhgdiaaDoor.Pts Go.Proofs.YtmohopjblhgdiaaDoor.S15D

set_option maxRecDepth 100000
theorem kaF (a b : Fp12.K) : F12 (Fp12.ka (v12 (F12 a)) (v12 (F12 b))) = F12 (Fp12.ka a b) := F12_eq (Fp12.ka_congr (v12_F12 _) (v12_F12 _))
theorem ksF (a b : Fp12.K) : F12 (Fp12.ks (v12 (F12 a)) (v12 (F12 b))) = F12 (Fp12.ks a b) := F12_eq (Fp12.ks_congr (v12_F12 _) (v12_F12 _))
section
variable (s t x y : Fp2.G) (p q : Int)
theorem l1 : ga (gs (gm s x) y) (gs (gm t x) y) = ga (gs (gm (ga s t) x) y) (gs (gm (0, 0) x) y) := by
  apply Prod.ext <;> simp [ga, gs, gm, Int.add_mul] <;> omega
theorem l2 : ga (gn (gk s p)) (gn (gk t p)) = ga (gn (gk (ga s t) p)) (gn (gk (0, 0) p)) := by
  apply Prod.ext <;> simp [ga, gn, gk, Int.add_mul] <;> omega
theorem ln_lin {u : Fp2.G} (hu : E2 u (ga s t)) : E12 (Fp12.ka (LN s x y p q) (LN t x y p q)) (Fp12.ka (LN u x y p q) (LN (0, 0) x y p q)) := by
  refine ⟨⟨?_, ?_, E2.rfl⟩, E6.rfl⟩
  · show E2 (ga (gs (gm s x) y) (gs (gm t x) y)) (ga (gs (gm u x) y) (gs (gm (0, 0) x) y))
    rw [l1]
    exact ga_congr (gs_congr (gm_congr hu.symm E2.rfl) E2.rfl) E2.rfl
  · show E2 (ga (gn (gk s p)) (gn (gk t p))) (ga (gn (gk u p)) (gn (gk (0, 0) p)))
    rw [l2]
    exact ga_congr (gn_congr (gk_congr hu.symm rfl)) E2.rfl
theorem gs_self (a : Fp2.G) : gs a a = (0, 0) := by
  apply Prod.ext <;> simp [gs]
theorem gs_z (a : Fp2.G) : gs a (0, 0) = a := by
  apply Prod.ext <;> simp [gs]
theorem gnk_z : gn (gk s 0) = (0, 0) := by
  apply Prod.ext <;> simp [gn, gk]
theorem ln_far : Fp12.ks (LN s x y p q) (LN s x y 0 0) = (((0, 0), gn (gk s p), (0, 0)), ((0, 0), (q, 0), (0, 0))) := by
  show ((gs (gs (gm s x) y) (gs (gm s x) y), gs (gn (gk s p)) (gn (gk s 0)), gs (0, 0) (0, 0)), (gs (0, 0) (0, 0), gs (q, 0) (0, 0), gs (0, 0) (0, 0))) = _
  rw [gs_self, gs_self, gnk_z, gs_z, gs_z]
end
section
variable (s t x y : List Int)
theorem zn : num (seg 0 6 (List.replicate 12 (0 : Int))) = 0 ∧ num (seg 6 6 (List.replicate 12 (0 : Int))) = 0 := by decide +kernel
theorem zv : v2 (List.replicate 12 (0 : Int)) = (0, 0) := by decide +kernel
theorem e_lin : F12 (Fp12.ka (v12 (lnW s x y)) (v12 (lnW t x y))) = F12 (Fp12.ka (v12 (lnW (F2 (ga (v2 s) (v2 t))) x y)) (v12 (lnW (List.replicate 12 0) x y))) := by
  unfold lnW
  rw [kaF, kaF, zv]
  exact F12_eq (ln_lin _ _ _ _ _ _ (v2_F2 _))
theorem e_far : F12 (Fp12.ks (v12 (lnW s x y)) (v12 (lnW s x (List.replicate 12 0)))) = List.replicate 12 0 ++ F2 (gn (v2 (F2 (gk (v2 s) (num (seg 0 6 y)))))) ++ List.replicate 12 0 ++ List.replicate 12 0 ++ Fp.fe (num (seg 6 6 y)) ++ List.replicate 6 0 ++ List.replicate 12 0 := by
  unfold lnW
  rw [ksF, zn.1, zn.2, ln_far, F2_eq (gn_congr (v2_F2 (gk (v2 s) (num (seg 0 6 y)))))]
  show (F2 (0, 0) ++ F2 _ ++ F2 (0, 0)) ++ (F2 (0, 0) ++ F2 (_, 0) ++ F2 (0, 0)) = _
  rw [F2_z, F2_r]
  simp only [List.append_assoc]
theorem lnA : seg 0 12 (lnW s x y) = F2 (gs (gm (v2 s) (v2 (seg 0 12 x))) (v2 (seg 12 12 x))) := by
  show seg 0 12 ((F2 _ ++ F2 _ ++ F2 _) ++ F6 _) = _
  rw [List.append_assoc, List.append_assoc]
  exact List.take_left' (Nm.F2 _).len
theorem lnB : seg 12 12 (lnW s x y) = F2 (gn (gk (v2 s) (num (seg 0 6 y)))) := by
  show seg 12 12 ((F2 _ ++ F2 _ ++ F2 _) ++ F6 _) = _
  rw [List.append_assoc, List.append_assoc, seg, List.drop_left' (Nm.F2 _).len]
  exact List.take_left' (Nm.F2 _).len
theorem ln6 : seg 36 36 (lnW s x y) = List.replicate 12 0 ++ (Fp.fe (num (seg 6 6 y)) ++ List.replicate 6 0) ++ List.replicate 12 0 := by
  show seg 36 36 (F6 _ ++ (F2 (0, 0) ++ F2 (_, 0) ++ F2 (0, 0))) = _
  rw [seg, List.drop_left' (Fp6.Nm.F6 _).len, F2_z, F2_r]
  exact List.take_of_length_le (by simp [fe_len])
theorem vt6 : seg 36 36 (vtW x y) = List.replicate 36 0 := by
  show seg 36 36 (F6 _ ++ (F2 (0, 0) ++ F2 (0, 0) ++ F2 (0, 0))) = _
  rw [seg, List.drop_left' (Fp6.Nm.F6 _).len, F2_z]
  exact List.take_of_length_le (by simp)
theorem lnY : seg 48 6 (lnW s x y) = Fp.fe (num (seg 6 6 y)) := by
  have e : seg 48 6 (lnW s x y) = seg 12 6 (seg 36 36 (lnW s x y)) := by
    rw [seg, seg, seg, List.drop_take, List.take_take, List.drop_drop]
    rfl
  rw [e, ln6, List.append_assoc, seg, List.drop_left' (by simp)]
  rw [List.append_assoc]
  exact List.take_left' (fe_len _)
end
section
variable (x y z s : List Int)
abbrev rd (y : List Int) : List Int := ptW G2K.K2 (ptv G2K.K2 y false)
theorem wr_x : wr G2K.K2 (seg 0 12 (rd x)) = wr G2K.K2 (seg 0 12 x) := by
  rw [S13R.rx]
  exact red_wo G2K.K2 _
theorem wr_y : wr G2K.K2 (seg 12 12 (rd x)) = wr G2K.K2 (seg 12 12 x) := by
  rw [S13R.ry]
  exact red_wo G2K.K2 _
theorem sl_rd : sl (rd x) (rd y) = sl x y := by
  have e : ∀ a b : List Int, sl a b = if wr G2K.K2 (seg 0 12 a) = wr G2K.K2 (seg 0 12 b) then (if wr G2K.K2 (seg 12 12 a) = wr G2K.K2 (seg 12 12 b) ∧ ¬ wr G2K.K2 (seg 12 12 a) = G2K.c0 then (slTw G2K.K2 G2K.c2 G2K.c3 (wr G2K.K2 (seg 0 12 a)) (wr G2K.K2 (seg 12 12 a)), true) else (List.replicate 12 0, false)) else (slCw G2K.K2 (wr G2K.K2 (seg 0 12 a)) (wr G2K.K2 (seg 12 12 a)) (wr G2K.K2 (seg 0 12 b)) (wr G2K.K2 (seg 12 12 b)), true) := fun a b => rfl
  rw [e, e, wr_x, wr_x, wr_y, wr_y]
theorem va_x : E2 (v2 (seg 0 12 (rd x))) (v2 (seg 0 12 x)) := by
  rw [S13R.rx]
  exact v2_F2 _
theorem va_y : E2 (v2 (seg 12 12 (rd x))) (v2 (seg 12 12 x)) := by
  rw [S13R.ry]
  exact v2_F2 _
theorem ln_rd : lnW s (rd x) z = lnW s x z := F12_eq ⟨⟨gs_congr (gm_congr E2.rfl (va_x x)) (va_y x), E2.rfl, E2.rfl⟩, E6.rfl⟩
theorem vt_rd : vtW (rd x) z = vtW x z := F12_eq ⟨⟨va_x x, E2.rfl, E2.rfl⟩, E6.rfl⟩
theorem st_rd (d : Bool) : stW (rd x) false (rd y) false z d = stW x false y false z d := by
  unfold stW
  rw [sl_rd, ln_rd, vt_rd]
theorem ad_rd : ptW G2K.K2 (addP G2K.K2.F (ptv G2K.K2 y false) (ptv G2K.K2 y false)) = ptW G2K.K2 (addP G2K.K2.F (vo G2K.K2 (ptv G2K.K2 y false)) (vo G2K.K2 (ptv G2K.K2 y false))) ∧ ptB (addP G2K.K2.F (ptv G2K.K2 y false) (ptv G2K.K2 y false)) = ptB (addP G2K.K2.F (vo G2K.K2 (ptv G2K.K2 y false)) (vo G2K.K2 (ptv G2K.K2 y false))) :=
  out_eq G2K.K2 (eqP_symm G2K.K2.F (add_v G2K.K2 (eqP_refl G2K.K2.F _) (eqP_refl G2K.K2.F _)))
end
section
variable {x y z : List Int}
/-- The slope, read back from a line's number. -/
abbrev slB (l z : List Int) : List Int := F2 (gn (v2 (F2 (gk (v2 (seg 12 12 l)) (num (Fp.fe (pw (num (seg 0 6 z)) (PP - 2))))))))
theorem no_b (e : (sl x y).2 = false) : ptB (addP G2K.K2.F (ptv G2K.K2 x false) (ptv G2K.K2 y false)) = true := by rw [add_no G2K.K2 G2K.h0 e]; rfl
theorem yes_b (e : (sl x y).2 = true) : ptB (addP G2K.K2.F (ptv G2K.K2 x false) (ptv G2K.K2 y false)) = false := (add_yes G2K.K2 G2K.h2 G2K.h3 G2K.h0 e).2
theorem of_b (h : ptB (addP G2K.K2.F (ptv G2K.K2 x false) (ptv G2K.K2 y false)) = false) : (sl x y).2 = true := by
  cases e : (sl x y).2
  · rw [no_b e] at h
    cases h
  · rfl
theorem gk_back (s : Fp2.G) (p i : Int) : gn (gk (gn (gk s p)) i) = gk s (p * i) := by
  apply Prod.ext <;> simp [gn, gk, Int.mul_assoc, Int.neg_mul]
theorem gk_one (s : Fp2.G) : gk s 1 = s := by
  apply Prod.ext <;> simp [gk]
theorem th_s (e : (sl x y).2 = true) (hz : ¬ Fp.fe (num (seg 0 6 z)) = [0, 0, 0, 0, 0, 0]) : E2 (v2 (slB (stW x false y false z false) z)) (v2 (sl x y).1) := by
  have hp : ¬ num (seg 0 6 z) % PP = 0 := fun h => hz ((fe_congr (h.trans (by decide : (0 : Int) = 0 % PP))).trans fe_z)
  rw [st_ln e, slB, lnB]
  refine (v2_F2 _).trans ((gn_congr ((v2_F2 _).trans (gk_congr (v2_F2 _) (by rw [num_fe, Int.emod_emod])))).trans ?_)
  rw [gk_back]
  refine (gk_congr (k' := 1) E2.rfl ?_).trans (by rw [gk_one]; exact E2.rfl)
  rw [Int.mul_emod, Int.emod_emod, ← Int.mul_emod, pw_inverse hp]
  decide +kernel
theorem sub_c {a b c d : Fp2.G} (h : FG.eq (FG.sub a b) (FG.sub c d)) : E2 (gs a b) (gs c d) := by
  rw [G2K.fsub, G2K.fsub] at h
  exact G2K.feq.1 h
theorem add_c {a b c d : Fp2.G} (h : FG.eq (FG.add a b) (FG.sub c d)) : E2 (ga a b) (gs c d) := by
  rw [G2K.fsub] at h
  exact G2K.feq.1 h
/-- A line's value by a slope's words. -/
abbrev lvW (s x : List Int) : List Int := F2 (gs (v2 (F2 (gm (v2 s) (v2 (seg 0 12 x))))) (v2 (seg 12 12 x)))
theorem lv_eq {s : List Int} {l : Fp2.G} (h : E2 (v2 s) l) (x : List Int) : lvW s x = F2 (gs (gm l (v2 (seg 0 12 x))) (v2 (seg 12 12 x))) := F2_eq (gs_congr ((v2_F2 _).trans (gm_congr h E2.rfl)) E2.rfl)
theorem th_one (e : (sl x y).2 = true) (hz : ¬ Fp.fe (num (seg 0 6 z)) = [0, 0, 0, 0, 0, 0]) : seg 0 12 (stW x false y false z false) = lvW (slB (stW x false y false z false) z) x := by
  rw [lv_eq (th_s e hz), st_ln e, lnA]
theorem th_two (e : (sl x y).2 = true) (hz : ¬ Fp.fe (num (seg 0 6 z)) = [0, 0, 0, 0, 0, 0]) : lvW (slB (stW x false y false z false) z) x = lvW (slB (stW x false y false z false) z) y := by
  rw [lv_eq (th_s e hz), lv_eq (th_s e hz)]
  exact F2_eq (sub_c (ln_both G2K.K2 e))
theorem th_three (e : (sl x y).2 = true) (hz : ¬ Fp.fe (num (seg 0 6 z)) = [0, 0, 0, 0, 0, 0]) : F2 (ga (v2 (F2 (gm (v2 (slB (stW x false y false z false) z)) (v2 (seg 0 12 (ptW G2K.K2 (addP G2K.K2.F (ptv G2K.K2 x false) (ptv G2K.K2 y false)))))))) (v2 (seg 12 12 (ptW G2K.K2 (addP G2K.K2.F (ptv G2K.K2 x false) (ptv G2K.K2 y false)))))) = lvW (slB (stW x false y false z false) z) y := by
  rw [← th_two e hz, lv_eq (th_s e hz)]
  obtain ⟨u, v, h1, h2⟩ := ln_sum G2K.K2 G2K.h2 G2K.h3 G2K.h0 e
  rw [h1]
  have e1 : seg 0 12 (ptW G2K.K2 (some (u, v))) = F2 u := seg_x G2K.K2 u v
  have e2 : seg 12 12 (ptW G2K.K2 (some (u, v))) = F2 v := seg_y G2K.K2 u v
  rw [e1, e2]
  refine F2_eq ((ga_congr ((v2_F2 _).trans (gm_congr (th_s e hz) (v2_F2 u))) (v2_F2 v)).trans ?_)
  exact add_c h2
end
end Go.Proofs.YtmohopjblhgdiaaDoor.S15N

/-
  Own text. Layer 15, the landed package by the reckoner.
-/
namespace Go.Proofs.YtmohopjblhgdiaaDoor.S15O
set_option linter.unusedVariables false
set_option linter.unusedSimpArgs false
open Go Go.RowKit Go.Proofs.YtmohopjblhgdiaaDoor.Reg Go.Proofs.YtmohopjblhgdiaaDoor.Base Go.Proofs.YtmohopjblhgdiaaDoor.Limb Go.Proofs.YtmohopjblhgdiaaDoor.Sx Go.Proofs.YtmohopjblhgdiaaDoor.Fp Go.Proofs.YtmohopjblhgdiaaDoor.Fp2 Go.Proofs.YtmohopjblhgdiaaDoor.Fp6 Go.Proofs.YtmohopjblhgdiaaDoor.Fp12 Go.Proofs.YtmohopjblhgdiaaDoor.Ec Go.Proofs.YtmohopjblhgdiaaDoor.Pts Go.Proofs.YtmohopjblhgdiaaDoor.S15D Go.Proofs.YtmohopjblhgdiaaDoor.S15N

set_option maxHeartbeats 1000000
def LL : List (Fact Tryd.prog GlobD) := S7.lReduce.fact (.con Tryd.func59 rfl (by decide) S7.lReduce) ::
  S7.lSub.fact (.con Tryd.func19 rfl (by decide) S7.lSub) ::
  S7.lNeg.fact (.con Tryd.func12 rfl (by decide) S7.lNeg) ::
  S7.lMul.fact (.con Tryd.func20 rfl (by decide) S7.lMul) ::
  S7.lScale.fact (.con Tryd.func13 rfl (by decide) S7.lScale) ::
  S7.pReduce.fact (.con Tryd.func14 rfl (by decide) S7.pReduce) ::
  S7.pNeg.fact (.con Tryd.func29 rfl (by decide) S7.pNeg) ::
  []
def TN : List (FuncId × Ent2) := []
theorem TN_ok : TOk2 Tryd.prog GlobD TN := trivial
def XL : Cx := ((Cx.of [(24, 6), (26, 12)] (tb LL)).eqs [(30, 12), (28, 24)]).more TN
theorem XL_ok : CxOk Tryd.prog XL GlobD := ((cx_ok (E := [(24, 6), (26, 12)]) LL ⟨⟨G1K.eqF, G1K.gdF⟩, ⟨G2K.eqF, G2K.gdF⟩, trivial⟩ (by kernel_rfl)).eqs (EM := [(30, 12), (28, 24)]) ⟨⟨G1K.eqG, G1K.gdG⟩, ⟨G2K.eqG, G2K.gdG⟩, trivial⟩).more TN_ok
set_option maxRecDepth 100000 in
theorem lLine : ConG Tryd.prog GlobD 8 [.w 12, .p 24, .p 12] G1K.Pre0 (S15D.oL fun s x b y c => .agg [.nums 72 (S15D.lnW s x y)]) := conL (fun s x b y c n => ⟨Fp12.Nm.F12 _, trivial⟩) (fun _ _ _ _ _ _ => rfl) (fun s hs x hx b y hy c w hG => fn_outS (N := 9) XL_ok GlobD.keep Tryd.func8 [] (fun s hs => by cases hs) (G1K.noSS hG) (args := [.agg [.nums 12 s], .agg [.nums 24 x, .nm (.bl b)], .agg [.nums 12 y, .nm (.bl c)]]) (q := []) (v := (.agg [.nums 72 (F2 (gs (v2 (F2 (gm (v2 s) (v2 (seg 0 12 x))))) (v2 (seg 12 12 x))) ++ F2 (gn (v2 (F2 (gk (v2 s) (num (seg 0 6 y)))))) ++ List.replicate 12 0 ++ List.replicate 12 0 ++ Fp.fe (num (seg 6 6 y)) ++ List.replicate 6 0 ++ List.replicate 12 0)])) (obs := []) 1 (by kernel_rfl) (trivial) (fun v hv => by
      simp only [List.mem_cons, List.not_mem_nil, or_false] at hv
      rcases hv with rfl | rfl | rfl
      · exact ⟨hs, trivial⟩
      · exact ⟨hx, trivial, trivial⟩
      · exact ⟨hy, trivial, trivial⟩) (by rw [ln_raw]) (by first | (simp only [List.map_cons, List.map_nil, G1K.p_den, G2K.p_den, S15D.w_den]; rfl) | simp only [List.map_cons, List.map_nil, G1K.p_den, G2K.p_den, S15D.w_den]))
def LS : List (Fact Tryd.prog GlobD) := S13O.pAdd.fact (.con Tryd.func9 rfl (by decide) S13O.pAdd) ::
  S13O.pSub.fact (.con Tryd.func19 rfl (by decide) S13O.pSub) ::
  S13O.pMul.fact (.con Tryd.func20 rfl (by decide) S13O.pMul) ::
  []
def XS : Cx := ((Cx.of [(24, 6), (26, 12)] (tb LS)).eqs [(30, 12), (28, 24)]).more TN
theorem XS_ok : CxOk Tryd.prog XS GlobD := ((cx_ok (E := [(24, 6), (26, 12)]) LS ⟨⟨G1K.eqF, G1K.gdF⟩, ⟨G2K.eqF, G2K.gdF⟩, trivial⟩ (by kernel_rfl)).eqs (EM := [(30, 12), (28, 24)]) ⟨⟨G1K.eqG, G1K.gdG⟩, ⟨G2K.eqG, G2K.gdG⟩, trivial⟩).more TN_ok
def L0 : List (Fact Tryd.prog GlobD) := ⟨32, entI 32 XL 9, .inline XL_ok GlobD.keep Tryd.func32 rfl (by decide)⟩ ::
  ⟨35, entI 35 XL 9, .inline XL_ok GlobD.keep Tryd.func35 rfl (by decide)⟩ ::
  S13O.pMul.fact (.con Tryd.func20 rfl (by decide) S13O.pMul) ::
  S13O.pInv.fact (.con Tryd.func36 rfl (by decide) S13O.pInv) ::
  []
def TB : List (FuncId × Ent2) := [(8, entG [.w 12, .p 24, .p 12] G1K.Pre0 (S15D.oL fun s x b y c => .agg [.nums 72 (S15D.lnW s x y)])), (34, entG [.p 24] G2K.Pre0 (G2K.o1 fun x b => G2K.PA (ptv G2K.K2 x b))), (17, entG [.p 24, .p 24] G2K.Pre0 (G2K.o2 fun x b y c => G2K.PA (addP G2K.K2.F (ptv G2K.K2 x b) (ptv G2K.K2 y c))))]
theorem TB_ok : TOk2 Tryd.prog GlobD TB := ⟨.conG Tryd.func8 rfl (by decide) lLine, .conG Tryd.func34 rfl (by decide) S13O.lReduce, .conG Tryd.func17 rfl (by decide) S13O.lAdd, trivial⟩
noncomputable def TS (q : List Bool) : List (FuncId × Ent2) := (33, entQ Tryd.prog 33 XS 9 q) :: TB
theorem TS_ok (q : List Bool) : TOk2 Tryd.prog GlobD (TS q) := ⟨.inlineQ XS_ok GlobD.keep Tryd.func33 rfl (by decide), TB_ok⟩
noncomputable def XT (q : List Bool) : Cx := ((Cx.of [(24, 6), (26, 12)] (tb L0)).eqs [(30, 12), (28, 24)]).more (TS q)
theorem XT_ok (q : List Bool) : CxOk Tryd.prog (XT q) GlobD := ((cx_ok (E := [(24, 6), (26, 12)]) L0 ⟨⟨G1K.eqF, G1K.gdF⟩, ⟨G2K.eqF, G2K.gdF⟩, trivial⟩ (by kernel_rfl)).eqs (EM := [(30, 12), (28, 24)]) ⟨⟨G1K.eqG, G1K.gdG⟩, ⟨G2K.eqG, G2K.gdG⟩, trivial⟩).more (TS_ok q)
theorem sl_t {x y : List Int} (e : (sl x y).2 = true) (e1 : wr G2K.K2 (seg 0 12 x) = wr G2K.K2 (seg 0 12 y)) : (sl x y).1 = slTl G2K.K2 (seg 0 12 (ptW G2K.K2 (ptv G2K.K2 x false))) (seg 12 12 (ptW G2K.K2 (ptv G2K.K2 x false))) := by
  rw [S13R.rx, S13R.ry, slTl_ok G2K.K2 G2K.h2 G2K.h3]
  have h : sl x y = if wr G2K.K2 (seg 12 12 x) = wr G2K.K2 (seg 12 12 y) ∧ ¬ wr G2K.K2 (seg 12 12 x) = G2K.c0 then (slTw G2K.K2 G2K.c2 G2K.c3 (wr G2K.K2 (seg 0 12 x)) (wr G2K.K2 (seg 12 12 x)), true) else (List.replicate 12 0, false) := if_pos e1
  rw [h] at e ⊢
  split at e
  · rename_i k
    rw [if_pos k]
  · cases e
theorem sl_c {x y : List Int} (e1 : ¬ wr G2K.K2 (seg 0 12 x) = wr G2K.K2 (seg 0 12 y)) : (sl x y).1 = slCw G2K.K2 (seg 0 12 (ptW G2K.K2 (ptv G2K.K2 x false))) (seg 12 12 (ptW G2K.K2 (ptv G2K.K2 x false))) (seg 0 12 (ptW G2K.K2 (ptv G2K.K2 y false))) (seg 12 12 (ptW G2K.K2 (ptv G2K.K2 y false))) := by
  rw [S13R.rx, S13R.ry, S13R.rx, S13R.ry]
  exact congrArg Prod.fst (if_neg e1)
theorem run_c {x y : List Int} : ws G2K.K2 (seg 0 12 (ptW G2K.K2 (ptv G2K.K2 y false))) (seg 0 12 (ptW G2K.K2 (ptv G2K.K2 x false))) = [0, 0, 0, 0, 0, 0, 0, 0, 0, 0, 0, 0] ↔ wr G2K.K2 (seg 0 12 x) = wr G2K.K2 (seg 0 12 y) := by
  have h : [0, 0, 0, 0, 0, 0, 0, 0, 0, 0, 0, 0] = G2K.K2.wo (G2K.K2.F.int 0) := G2K.h0.symm
  rw [S13R.rx, S13R.rx, h]
  simp only [ws, wr, sub_l, sub_r]
  exact (wo_z G2K.K2).trans ⟨fun h => (G2K.K2.wo_eq h).symm, fun h => G2K.K2.eq_wo h.symm⟩
theorem run_t {x : List Int} : w2 G2K.K2 (seg 12 12 (ptW G2K.K2 (ptv G2K.K2 x false))) = [0, 0, 0, 0, 0, 0, 0, 0, 0, 0, 0, 0] ↔ wr G2K.K2 (seg 12 12 x) = G2K.c0 := by
  have h : [0, 0, 0, 0, 0, 0, 0, 0, 0, 0, 0, 0] = G2K.K2.wo (G2K.K2.F.int 0) := G2K.h0.symm
  rw [S13R.ry, h, ← G2K.h0]
  simp only [w2, wa, wr, add_l, add_r]
  rw [wo_z, wo_z, two_]
  exact ⟨fun h => (G2K.K2.F.zd h).resolve_left (nz_int _ (by decide +kernel)), fun h => by rw [G2K.K2.F.mul_comm]; exact G2K.K2.F.zm _ h⟩
theorem sl_at {x y : List Int} : (sl x y).2 = true ↔ ¬ (wr G2K.K2 (seg 0 12 x) = wr G2K.K2 (seg 0 12 y) ∧ ¬ (wr G2K.K2 (seg 12 12 x) = wr G2K.K2 (seg 12 12 y) ∧ ¬ wr G2K.K2 (seg 12 12 x) = G2K.c0)) := by
  by_cases e1 : wr G2K.K2 (seg 0 12 x) = wr G2K.K2 (seg 0 12 y)
  · have h : sl x y = if wr G2K.K2 (seg 12 12 x) = wr G2K.K2 (seg 12 12 y) ∧ ¬ wr G2K.K2 (seg 12 12 x) = G2K.c0 then (slTw G2K.K2 G2K.c2 G2K.c3 (wr G2K.K2 (seg 0 12 x)) (wr G2K.K2 (seg 12 12 x)), true) else (List.replicate 12 0, false) := if_pos e1
    rw [h]
    split
    · rename_i k
      exact ⟨fun _ h => h.2 k, fun _ => rfl⟩
    · rename_i k
      exact ⟨fun h => (nomatch h), fun h => (h ⟨e1, k⟩).elim⟩
  · have h : sl x y = (slCw G2K.K2 (wr G2K.K2 (seg 0 12 x)) (wr G2K.K2 (seg 12 12 x)) (wr G2K.K2 (seg 0 12 y)) (wr G2K.K2 (seg 12 12 y)), true) := if_neg e1
    rw [h]
    exact ⟨fun _ h => e1 h.1, fun _ => rfl⟩
theorem sl_off {x y : List Int} (h : ¬ (sl x y).2 = true) : (sl x y).2 = false := by
  cases e : (sl x y).2
  · rfl
  · exact (h e).elim
set_option maxRecDepth 100000 in
theorem lStep : ConG Tryd.prog GlobD 15 [.p 24, .p 24, .p 12] G1K.Pre0 (S15D.oS fun x b y c z d => S15D.stA x b y c z d) := conS stA_ok stA_den (fun x hx b y hy c z hz d w hG => by
  cases b
  · cases c
    · cases d
      · by_cases e1 : wr G2K.K2 (seg 0 12 x) = wr G2K.K2 (seg 0 12 y)
        · by_cases e2 : wr G2K.K2 (seg 12 12 x) = wr G2K.K2 (seg 12 12 y)
          · by_cases e3 : wr G2K.K2 (seg 12 12 x) = G2K.c0
            · have e : (sl x y).2 = false := sl_off fun h => sl_at.1 h ⟨e1, fun k => k.2 e3⟩
              exact fn_outS (N := 9) (XT_ok [true]) GlobD.keep Tryd.func15 [] (fun s hs => by cases hs) (G1K.noSS hG) (args := [.agg [.nums 24 x, .nm (.bl false)], .agg [.nums 24 y, .nm (.bl false)], .agg [.nums 12 z, .nm (.bl false)]]) (q := [false, false, false, true]) (v := (.tup [.agg [.nums 24 (ptW G2K.K2 (addP G2K.K2.F (ptv G2K.K2 x false) (ptv G2K.K2 y false))), .nm (.bl (ptB (addP G2K.K2.F (ptv G2K.K2 x false) (ptv G2K.K2 y false))))], .agg [.nums 72 (F2 (v2 (seg 0 12 x)) ++ Fp.fe (-num (seg 0 6 z)) ++ List.replicate 6 0 ++ List.replicate 12 0 ++ List.replicate 36 0)]])) (obs := [false = false, false = false, false = false, qb true (ptW G2K.K2 (ptv G2K.K2 x false) = ptW G2K.K2 (ptv G2K.K2 y false) ∧ ptB (ptv G2K.K2 x false) = ptB (ptv G2K.K2 y false)), qb true (w2 G2K.K2 (seg 12 12 (ptW G2K.K2 (ptv G2K.K2 x false))) = [0, 0, 0, 0, 0, 0, 0, 0, 0, 0, 0, 0])]) 1 (by kernel_rfl) (hp (rfl) (hp (rfl) (hp (rfl) (hp (S13O.pteq.2 ⟨e1, e2⟩) (hp (run_t.2 e3) trivial))))) (fun v hv => by
      simp only [List.mem_cons, List.not_mem_nil, or_false] at hv
      rcases hv with rfl | rfl | rfl
      · exact ⟨hx, trivial, trivial⟩
      · exact ⟨hy, trivial, trivial⟩
      · exact ⟨hz, trivial, trivial⟩) (by rw [vt_raw, stA, st_vt e]) (by first | (simp only [List.map_cons, List.map_nil, G1K.p_den, G2K.p_den, S15D.w_den]; rfl) | simp only [List.map_cons, List.map_nil, G1K.p_den, G2K.p_den, S15D.w_den])
            · have e : (sl x y).2 = true := sl_at.2 fun h => h.2 ⟨e2, e3⟩
              exact fn_outS (N := 9) (XT_ok [true]) GlobD.keep Tryd.func15 [] (fun s hs => by cases hs) (G1K.noSS hG) (args := [.agg [.nums 24 x, .nm (.bl false)], .agg [.nums 24 y, .nm (.bl false)], .agg [.nums 12 z, .nm (.bl false)]]) (q := [false, false, false, false]) (v := (.tup [.agg [.nums 24 (ptW G2K.K2 (addP G2K.K2.F (ptv G2K.K2 x false) (ptv G2K.K2 y false))), .nm (.bl (ptB (addP G2K.K2.F (ptv G2K.K2 x false) (ptv G2K.K2 y false))))], .agg [.nums 72 (lnW (slTl G2K.K2 (seg 0 12 (ptW G2K.K2 (ptv G2K.K2 x false))) (seg 12 12 (ptW G2K.K2 (ptv G2K.K2 x false)))) x z)]])) (obs := [false = false, false = false, false = false, qb true (ptW G2K.K2 (ptv G2K.K2 x false) = ptW G2K.K2 (ptv G2K.K2 y false) ∧ ptB (ptv G2K.K2 x false) = ptB (ptv G2K.K2 y false)), qb false (w2 G2K.K2 (seg 12 12 (ptW G2K.K2 (ptv G2K.K2 x false))) = [0, 0, 0, 0, 0, 0, 0, 0, 0, 0, 0, 0])]) 1 (by kernel_rfl) (hp (rfl) (hp (rfl) (hp (rfl) (hp (S13O.pteq.2 ⟨e1, e2⟩) (hp (fun h => e3 (run_t.1 h)) trivial))))) (fun v hv => by
      simp only [List.mem_cons, List.not_mem_nil, or_false] at hv
      rcases hv with rfl | rfl | rfl
      · exact ⟨hx, trivial, trivial⟩
      · exact ⟨hy, trivial, trivial⟩
      · exact ⟨hz, trivial, trivial⟩) (by rw [stA, st_ln e, sl_t e e1]) (by first | (simp only [List.map_cons, List.map_nil, G1K.p_den, G2K.p_den, S15D.w_den]; rfl) | simp only [List.map_cons, List.map_nil, G1K.p_den, G2K.p_den, S15D.w_den])
          · have e : (sl x y).2 = false := sl_off fun h => sl_at.1 h ⟨e1, fun k => e2 k.1⟩
            exact fn_outS (N := 9) (XT_ok [false]) GlobD.keep Tryd.func15 [] (fun s hs => by cases hs) (G1K.noSS hG) (args := [.agg [.nums 24 x, .nm (.bl false)], .agg [.nums 24 y, .nm (.bl false)], .agg [.nums 12 z, .nm (.bl false)]]) (q := [false, false, false, true]) (v := (.tup [.agg [.nums 24 (ptW G2K.K2 (addP G2K.K2.F (ptv G2K.K2 x false) (ptv G2K.K2 y false))), .nm (.bl (ptB (addP G2K.K2.F (ptv G2K.K2 x false) (ptv G2K.K2 y false))))], .agg [.nums 72 (F2 (v2 (seg 0 12 x)) ++ Fp.fe (-num (seg 0 6 z)) ++ List.replicate 6 0 ++ List.replicate 12 0 ++ List.replicate 36 0)]])) (obs := [false = false, false = false, false = false, qb false (ptW G2K.K2 (ptv G2K.K2 x false) = ptW G2K.K2 (ptv G2K.K2 y false) ∧ ptB (ptv G2K.K2 x false) = ptB (ptv G2K.K2 y false)), qb true (ws G2K.K2 (seg 0 12 (ptW G2K.K2 (ptv G2K.K2 y false))) (seg 0 12 (ptW G2K.K2 (ptv G2K.K2 x false))) = [0, 0, 0, 0, 0, 0, 0, 0, 0, 0, 0, 0])]) 1 (by kernel_rfl) (hp (rfl) (hp (rfl) (hp (rfl) (hp (fun h => e2 (S13O.pteq.1 h).2) (hp (run_c.2 e1) trivial))))) (fun v hv => by
      simp only [List.mem_cons, List.not_mem_nil, or_false] at hv
      rcases hv with rfl | rfl | rfl
      · exact ⟨hx, trivial, trivial⟩
      · exact ⟨hy, trivial, trivial⟩
      · exact ⟨hz, trivial, trivial⟩) (by rw [vt_raw, stA, st_vt e]) (by first | (simp only [List.map_cons, List.map_nil, G1K.p_den, G2K.p_den, S15D.w_den]; rfl) | simp only [List.map_cons, List.map_nil, G1K.p_den, G2K.p_den, S15D.w_den])
        · have e : (sl x y).2 = true := sl_at.2 fun h => e1 h.1
          exact fn_outS (N := 9) (XT_ok [false]) GlobD.keep Tryd.func15 [] (fun s hs => by cases hs) (G1K.noSS hG) (args := [.agg [.nums 24 x, .nm (.bl false)], .agg [.nums 24 y, .nm (.bl false)], .agg [.nums 12 z, .nm (.bl false)]]) (q := [false, false, false, false]) (v := (.tup [.agg [.nums 24 (ptW G2K.K2 (addP G2K.K2.F (ptv G2K.K2 x false) (ptv G2K.K2 y false))), .nm (.bl (ptB (addP G2K.K2.F (ptv G2K.K2 x false) (ptv G2K.K2 y false))))], .agg [.nums 72 (lnW (slCw G2K.K2 (seg 0 12 (ptW G2K.K2 (ptv G2K.K2 x false))) (seg 12 12 (ptW G2K.K2 (ptv G2K.K2 x false))) (seg 0 12 (ptW G2K.K2 (ptv G2K.K2 y false))) (seg 12 12 (ptW G2K.K2 (ptv G2K.K2 y false)))) x z)]])) (obs := [false = false, false = false, false = false, qb false (ptW G2K.K2 (ptv G2K.K2 x false) = ptW G2K.K2 (ptv G2K.K2 y false) ∧ ptB (ptv G2K.K2 x false) = ptB (ptv G2K.K2 y false)), qb false (ws G2K.K2 (seg 0 12 (ptW G2K.K2 (ptv G2K.K2 y false))) (seg 0 12 (ptW G2K.K2 (ptv G2K.K2 x false))) = [0, 0, 0, 0, 0, 0, 0, 0, 0, 0, 0, 0])]) 1 (by kernel_rfl) (hp (rfl) (hp (rfl) (hp (rfl) (hp (fun h => e1 (S13O.pteq.1 h).1) (hp (fun h => e1 (run_c.1 h)) trivial))))) (fun v hv => by
      simp only [List.mem_cons, List.not_mem_nil, or_false] at hv
      rcases hv with rfl | rfl | rfl
      · exact ⟨hx, trivial, trivial⟩
      · exact ⟨hy, trivial, trivial⟩
      · exact ⟨hz, trivial, trivial⟩) (by rw [stA, st_ln e, sl_c e1]) (by first | (simp only [List.map_cons, List.map_nil, G1K.p_den, G2K.p_den, S15D.w_den]; rfl) | simp only [List.map_cons, List.map_nil, G1K.p_den, G2K.p_den, S15D.w_den])
      · exact fn_outS (N := 9) (XT_ok []) GlobD.keep Tryd.func15 [] (fun s hs => by cases hs) (G1K.noSS hG) (args := [.agg [.nums 24 x, .nm (.bl false)], .agg [.nums 24 y, .nm (.bl false)], .agg [.nums 12 z, .nm (.bl true)]]) (q := [false, false, true]) (v := (.tup [.agg [.nums 24 (ptW G2K.K2 (addP G2K.K2.F (ptv G2K.K2 x false) (ptv G2K.K2 y false))), .nm (.bl (ptB (addP G2K.K2.F (ptv G2K.K2 x false) (ptv G2K.K2 y false))))], .agg [.nums 72 ([1] ++ List.replicate 71 0)]])) (obs := [false = false, false = false, true = true]) 1 (by kernel_rfl) (hp (rfl) (hp (rfl) (hp (rfl) trivial))) (fun v hv => by
      simp only [List.mem_cons, List.not_mem_nil, or_false] at hv
      rcases hv with rfl | rfl | rfl
      · exact ⟨hx, trivial, trivial⟩
      · exact ⟨hy, trivial, trivial⟩
      · exact ⟨hz, trivial, trivial⟩) (by rw [stA, st_one rfl]; rfl) (by first | (simp only [List.map_cons, List.map_nil, G1K.p_den, G2K.p_den, S15D.w_den]; rfl) | simp only [List.map_cons, List.map_nil, G1K.p_den, G2K.p_den, S15D.w_den])
    · exact fn_outS (N := 9) (XT_ok []) GlobD.keep Tryd.func15 [] (fun s hs => by cases hs) (G1K.noSS hG) (args := [.agg [.nums 24 x, .nm (.bl false)], .agg [.nums 24 y, .nm (.bl true)], .agg [.nums 12 z, .nm (.bl d)]]) (q := [false, true]) (v := (.tup [.agg [.nums 24 (ptW G2K.K2 (addP G2K.K2.F (ptv G2K.K2 x false) (ptv G2K.K2 y true))), .nm (.bl (ptB (addP G2K.K2.F (ptv G2K.K2 x false) (ptv G2K.K2 y true))))], .agg [.nums 72 ([1] ++ List.replicate 71 0)]])) (obs := [false = false, true = true]) 1 (by kernel_rfl) (hp (rfl) (hp (rfl) trivial)) (fun v hv => by
      simp only [List.mem_cons, List.not_mem_nil, or_false] at hv
      rcases hv with rfl | rfl | rfl
      · exact ⟨hx, trivial, trivial⟩
      · exact ⟨hy, trivial, trivial⟩
      · exact ⟨hz, trivial, trivial⟩) (by rw [stA, st_one (by cases d <;> rfl)]; rfl) (by first | (simp only [List.map_cons, List.map_nil, G1K.p_den, G2K.p_den, S15D.w_den]; rfl) | simp only [List.map_cons, List.map_nil, G1K.p_den, G2K.p_den, S15D.w_den])
  · exact fn_outS (N := 9) (XT_ok []) GlobD.keep Tryd.func15 [] (fun s hs => by cases hs) (G1K.noSS hG) (args := [.agg [.nums 24 x, .nm (.bl true)], .agg [.nums 24 y, .nm (.bl c)], .agg [.nums 12 z, .nm (.bl d)]]) (q := [true]) (v := (.tup [.agg [.nums 24 (ptW G2K.K2 (addP G2K.K2.F (ptv G2K.K2 x true) (ptv G2K.K2 y c))), .nm (.bl (ptB (addP G2K.K2.F (ptv G2K.K2 x true) (ptv G2K.K2 y c))))], .agg [.nums 72 ([1] ++ List.replicate 71 0)]])) (obs := [true = true]) 1 (by kernel_rfl) (hp (rfl) trivial) (fun v hv => by
      simp only [List.mem_cons, List.not_mem_nil, or_false] at hv
      rcases hv with rfl | rfl | rfl
      · exact ⟨hx, trivial, trivial⟩
      · exact ⟨hy, trivial, trivial⟩
      · exact ⟨hz, trivial, trivial⟩) (by rw [stA, st_one (by cases d <;> rfl)]; rfl) (by first | (simp only [List.map_cons, List.map_nil, G1K.p_den, G2K.p_den, S15D.w_den]; rfl) | simp only [List.map_cons, List.map_nil, G1K.p_den, G2K.p_den, S15D.w_den]))
def LC : List (Fact Tryd.prog GlobD) := S10.lMul.fact (.con Tryd.func50 rfl (by decide) S10.lMul) ::
  []
def TC : List (FuncId × Ent2) := [(15, entG [.p 24, .p 24, .p 12] G1K.Pre0 (S15D.oS fun x b y c z d => S15D.stA x b y c z d))]
theorem TC_ok : TOk2 Tryd.prog GlobD TC := ⟨.conG Tryd.func15 rfl (by decide) lStep, trivial⟩
def XC : Cx := ((Cx.of [(24, 6), (26, 12)] (tb LC)).eqs [(30, 12), (28, 24)]).more TC
theorem XC_ok : CxOk Tryd.prog XC GlobD := ((cx_ok (E := [(24, 6), (26, 12)]) LC ⟨⟨G1K.eqF, G1K.gdF⟩, ⟨G2K.eqF, G2K.gdF⟩, trivial⟩ (by kernel_rfl)).eqs (EM := [(30, 12), (28, 24)]) ⟨⟨G1K.eqG, G1K.gdG⟩, ⟨G2K.eqG, G2K.gdG⟩, trivial⟩).more TC_ok
noncomputable def TW1 : List (FuncId × Ent4) := [(49, entCl Tryd.prog 49 XC 9)]
theorem TW1_ok : TOk4 Tryd.prog GlobD TW1 := ⟨.inline XC_ok Tryd.func49 rfl (by decide), trivial⟩
noncomputable def XE : Cx := XC.wrs TW1
theorem XE_ok : CxOk Tryd.prog XE GlobD := XC_ok.wrs TW1_ok
noncomputable def TW : List (FuncId × Ent4) := (51, entCl Tryd.prog 51 XE 9) :: TW1
theorem TW_ok : TOk4 Tryd.prog GlobD TW := ⟨.inline XE_ok Tryd.func51 rfl (by decide), TW1_ok⟩
def LM : List (Fact Tryd.prog GlobD) := ⟨32, entI 32 XL 9, .inline XL_ok GlobD.keep Tryd.func32 rfl (by decide)⟩ ::
  S10.lMul.fact (.con Tryd.func50 rfl (by decide) S10.lMul) ::
  S10.lConj.fact (.con Tryd.func52 rfl (by decide) S10.lConj) ::
  []
def TM : List (FuncId × Ent2) := [(22, entG [.p 12] G1K.Pre0 (G1K.o1 fun x b => .bl (onB G1K.K1 (G1K.K1.F.int 4) (ptv G1K.K1 x b)))), (23, entG [.p 24] G2K.Pre0 (G2K.o1 fun x b => .bl (onB G2K.K2 G2K.bb (ptv G2K.K2 x b))))]
theorem TM_ok : TOk2 Tryd.prog GlobD TM := ⟨.conG Tryd.func22 rfl (by decide) S12O.lOn, .conG Tryd.func23 rfl (by decide) S13O.lOn, trivial⟩
def X0 : Cx := ((Cx.of [(24, 6), (26, 12)] (tb LM)).eqs [(30, 12), (28, 24)]).more TM
theorem X0_ok : CxOk Tryd.prog X0 GlobD := ((cx_ok (E := [(24, 6), (26, 12)]) LM ⟨⟨G1K.eqF, G1K.gdF⟩, ⟨G2K.eqF, G2K.gdF⟩, trivial⟩ (by kernel_rfl)).eqs (EM := [(30, 12), (28, 24)]) ⟨⟨G1K.eqG, G1K.gdG⟩, ⟨G2K.eqG, G2K.gdG⟩, trivial⟩).more TM_ok
noncomputable def XV : Cx := X0.wrs TW
theorem XV_ok : CxOk Tryd.prog XV GlobD := X0_ok.wrs TW_ok
noncomputable abbrev XM (H : List (Nat × Ev)) : Cx := XV.sym (fun _ _ _ => False) H
theorem XM_ok (H : List (Nat × Ev)) : CxB Tryd.prog (XM H) GlobD := XV_ok.toCxB.sym (fun u h => h) (fun _ _ _ h => h.elim) H
section
variable (x y f tw : List Int) (tb : Bool)
def b5 : List Bk := [(30, [.nums 12 x, .nm (.bl false)]), (28, [.nums 24 y, .nm (.bl false)]), (35, [.nums 72 (List.replicate 72 0)]), (35, [.nums 72 f]), (28, [.nums 24 tw, .nm (.bl tb)]), (74, [.nm (.fn 49 [4, 0, 3])])]
def m1 (k : Nat) : St := ⟨mkSl 52 [(2, .ptr 0 0), (3, .ptr 1 0), (4, .ptr 2 0), (6, .ptr 3 0), (7, .ptr 4 0), (8, .ptr 5 0), (9, .fn 51 [3, 5, 4]), (10, .num .i64 (62 - (k : Int)))], b5 x y f tw tb⟩
def m1e : St := ⟨mkSl 52 [(4, .ptr 2 0), (6, .ptr 3 0)], b5 x y f tw tb⟩
end
/-- The point's words behind so many rounds: before the first they are those that came in. -/
def tW (x y : List Int) : Nat → List Int
  | 0 => y
  | k + 1 => ptW G2K.K2 (ml x y (k + 1)).2
def tB (x y : List Int) : Nat → Bool
  | 0 => false
  | k + 1 => ptB (ml x y (k + 1)).2
section
variable {x y : List Int} {S : Nat} {w : World}
theorem tw_st : ∀ k, stW (tW x y k) (tB x y k) (tW x y k) (tB x y k) x false = stW (ptW G2K.K2 (ml x y k).2) (ptB (ml x y k).2) (ptW G2K.K2 (ml x y k).2) (ptB (ml x y k).2) x false
  | 0 => (st_rd y y x false).symm
  | k + 1 => rfl
theorem tw_ad : ∀ k, ptW G2K.K2 (addP G2K.K2.F (ptv G2K.K2 (tW x y k) (tB x y k)) (ptv G2K.K2 (tW x y k) (tB x y k))) = ptW G2K.K2 (addP G2K.K2.F (vo G2K.K2 (ml x y k).2) (vo G2K.K2 (ml x y k).2)) ∧ ptB (addP G2K.K2.F (ptv G2K.K2 (tW x y k) (tB x y k)) (ptv G2K.K2 (tW x y k) (tB x y k))) = ptB (addP G2K.K2.F (vo G2K.K2 (ml x y k).2) (vo G2K.K2 (ml x y k).2))
  | 0 => ad_rd y
  | k + 1 => ⟨rfl, rfl⟩
abbrev mk1 (x y : List Int) (k : Nat) : St := m1 x y (ml x y k).1 (tW x y k) (tB x y k) k
abbrev mke (x y : List Int) : St := m1e x y (ml x y 63).1 (tW x y 63) (tB x y 63)
theorem does (hG : ∀ u, RowKit.Below S w u → GlobD u) (c : Code) : Does Tryd.prog S 0 w c (evalC Tryd.prog (XM []) 0 9 c) := code_ok (XM_ok []) hG c (fun _ _ _ h => by rw [hooked_nil] at h; cases h)
set_option maxRecDepth 100000 in
theorem rndf {k : Nat} (hk : k < 63) (h2 : bt k = false) (hG : ∀ u, RowKit.Below S w u → GlobD u) : Goes Tryd.prog S 0 w (lpc Tryd.f21 1) (mk1 x y k) .nrm (mk1 x y (k + 1)) := by
  have hd := dk_in k
  have a1 := tw_st (x := x) (y := y) k
  have a2 := tw_ad (x := x) (y := y) k
  have h3 : qb false (dk k % 2 = 1) := (of_decide_eq_false h2 : ¬ dk k % 2 = 1)
  exact (does hG _).goes [false, false] (ps := [AV.fn 51 [3, 5, 4] = AV.fn 51 [3, 5, 4], 62 - (k : Int) - 1 = 62 - ((k + 1 : Nat) : Int), [Sg.nums 12 x, Sg.nm (NV.bl false)] = [Sg.nums 12 x, Sg.nm (NV.bl false)], [Sg.nums 24 y, Sg.nm (NV.bl false)] = [Sg.nums 24 y, Sg.nm (NV.bl false)], List.replicate 72 (0 : Int) = List.replicate 72 0, muW (sqW (ml x y k).1) (stW (tW x y k) (tB x y k) (tW x y k) (tB x y k) x false) = (ml x y (k + 1)).1, [Sg.nums 24 (ptW G2K.K2 (addP G2K.K2.F (ptv G2K.K2 (tW x y k) (tB x y k)) (ptv G2K.K2 (tW x y k) (tB x y k)))), Sg.nm (NV.bl (ptB (addP G2K.K2.F (ptv G2K.K2 (tW x y k) (tB x y k)) (ptv G2K.K2 (tW x y k) (tB x y k)))))] = [Sg.nums 24 (ptW G2K.K2 ((ml x y (k + 1)).2)), Sg.nm (NV.bl (ptB ((ml x y (k + 1)).2)))], [Sg.nm (NV.fn 49 [4, 0, 3])] = [Sg.nm (NV.fn 49 [4, 0, 3])], qb false (62 - (k : Int) < 0), 0 ≤ 62 - (k : Int) ∧ 62 - (k : Int) < ((64 : Nat) : Int), rng .u64 (15132376222941642752 / 2 ^ (62 - (k : Int)).toNat), 0 ≤ 15132376222941642752 / 2 ^ (62 - (k : Int)).toNat ∧ (0 : Int) < 2, rng .u64 (15132376222941642752 / 2 ^ (62 - (k : Int)).toNat % 2), qb false (15132376222941642752 / 2 ^ (62 - (k : Int)).toNat % 2 = 1), IntKind.i64.wrap (62 - (k : Int) - 1) = 62 - (k : Int) - 1]) (by kernel_rfl) (hp (rfl) (hp (by omega) (hp (rfl) (hp (rfl) (hp (rfl) (hp (by rw [a1, ml_f h2]) (hp (by rw [a2.1, a2.2, ml_f h2]) (hp (rfl) (hp ((by omega : ¬ (62 - (k : Int) < 0))) (hp (by omega) (hp ((by omega : 0 ≤ dk k ∧ dk k < 18446744073709551616)) (hp (⟨hd.1, by decide⟩) (hp ((by omega : 0 ≤ dk k % 2 ∧ dk k % 2 < 18446744073709551616)) (hp (h3) (hp (IntWalk.i64_in _ (by omega)) trivial))))))))))))))) (by kernel_rfl)
set_option maxRecDepth 100000 in
theorem rndt {k : Nat} (hk : k < 63) (h2 : bt k = true) (hG : ∀ u, RowKit.Below S w u → GlobD u) : Goes Tryd.prog S 0 w (lpc Tryd.f21 1) (mk1 x y k) .nrm (mk1 x y (k + 1)) := by
  have hd := dk_in k
  have a1 := tw_st (x := x) (y := y) k
  have a2 := tw_ad (x := x) (y := y) k
  have h3 : qb true (dk k % 2 = 1) := (of_decide_eq_true h2 : dk k % 2 = 1)
  exact (does hG _).goes [false, true] (ps := [AV.fn 51 [3, 5, 4] = AV.fn 51 [3, 5, 4], 62 - (k : Int) - 1 = 62 - ((k + 1 : Nat) : Int), [Sg.nums 12 x, Sg.nm (NV.bl false)] = [Sg.nums 12 x, Sg.nm (NV.bl false)], [Sg.nums 24 y, Sg.nm (NV.bl false)] = [Sg.nums 24 y, Sg.nm (NV.bl false)], List.replicate 72 (0 : Int) = List.replicate 72 0, muW (muW (sqW (ml x y k).1) (stW (tW x y k) (tB x y k) (tW x y k) (tB x y k) x false)) (stW (ptW G2K.K2 (addP G2K.K2.F (ptv G2K.K2 (tW x y k) (tB x y k)) (ptv G2K.K2 (tW x y k) (tB x y k)))) (ptB (addP G2K.K2.F (ptv G2K.K2 (tW x y k) (tB x y k)) (ptv G2K.K2 (tW x y k) (tB x y k)))) y false x false) = (ml x y (k + 1)).1, [Sg.nums 24 (ptW G2K.K2 (addP G2K.K2.F (ptv G2K.K2 (ptW G2K.K2 (addP G2K.K2.F (ptv G2K.K2 (tW x y k) (tB x y k)) (ptv G2K.K2 (tW x y k) (tB x y k)))) (ptB (addP G2K.K2.F (ptv G2K.K2 (tW x y k) (tB x y k)) (ptv G2K.K2 (tW x y k) (tB x y k))))) (ptv G2K.K2 y false))), Sg.nm (NV.bl (ptB (addP G2K.K2.F (ptv G2K.K2 (ptW G2K.K2 (addP G2K.K2.F (ptv G2K.K2 (tW x y k) (tB x y k)) (ptv G2K.K2 (tW x y k) (tB x y k)))) (ptB (addP G2K.K2.F (ptv G2K.K2 (tW x y k) (tB x y k)) (ptv G2K.K2 (tW x y k) (tB x y k))))) (ptv G2K.K2 y false))))] = [Sg.nums 24 (ptW G2K.K2 ((ml x y (k + 1)).2)), Sg.nm (NV.bl (ptB ((ml x y (k + 1)).2)))], [Sg.nm (NV.fn 49 [4, 0, 3])] = [Sg.nm (NV.fn 49 [4, 0, 3])], qb false (62 - (k : Int) < 0), 0 ≤ 62 - (k : Int) ∧ 62 - (k : Int) < ((64 : Nat) : Int), rng .u64 (15132376222941642752 / 2 ^ (62 - (k : Int)).toNat), 0 ≤ 15132376222941642752 / 2 ^ (62 - (k : Int)).toNat ∧ (0 : Int) < 2, rng .u64 (15132376222941642752 / 2 ^ (62 - (k : Int)).toNat % 2), qb true (15132376222941642752 / 2 ^ (62 - (k : Int)).toNat % 2 = 1), IntKind.i64.wrap (62 - (k : Int) - 1) = 62 - (k : Int) - 1]) (by kernel_rfl) (hp (rfl) (hp (by omega) (hp (rfl) (hp (rfl) (hp (rfl) (hp (by rw [a1, a2.1, a2.2, ml_t h2]) (hp (by rw [a2.1, a2.2, ml_t h2]) (hp (rfl) (hp ((by omega : ¬ (62 - (k : Int) < 0))) (hp (by omega) (hp ((by omega : 0 ≤ dk k ∧ dk k < 18446744073709551616)) (hp (⟨hd.1, by decide⟩) (hp ((by omega : 0 ≤ dk k % 2 ∧ dk k % 2 < 18446744073709551616)) (hp (h3) (hp (IntWalk.i64_in _ (by omega)) trivial))))))))))))))) (by kernel_rfl)
set_option maxRecDepth 100000 in
theorem end_ (hG : ∀ u, RowKit.Below S w u → GlobD u) : Goes Tryd.prog S 0 w (lpc Tryd.f21 1) (mk1 x y 63) (.ext 1) (mke x y) :=
  (does hG _).goes [true] (ps := [[Sg.nums 12 x, Sg.nm (NV.bl false)] = [Sg.nums 12 x, Sg.nm (NV.bl false)], [Sg.nums 24 y, Sg.nm (NV.bl false)] = [Sg.nums 24 y, Sg.nm (NV.bl false)], List.replicate 72 (0 : Int) = List.replicate 72 0, (ml x y 63).1 = (ml x y 63).1, [Sg.nums 24 (tW x y 63), Sg.nm (NV.bl (tB x y 63))] = [Sg.nums 24 (tW x y 63), Sg.nm (NV.bl (tB x y 63))], [Sg.nm (NV.fn 49 [4, 0, 3])] = [Sg.nm (NV.fn 49 [4, 0, 3])], qb true (62 - ((63 : Nat) : Int) < 0)]) (by kernel_rfl) (hp (rfl) (hp (rfl) (hp (rfl) (hp (rfl) (hp (rfl) (hp (rfl) (hp ((by decide : (62 - ((63 : Nat) : Int) < 0))) trivial))))))) (by kernel_rfl)
theorem loop (hG : ∀ u, RowKit.Below S w u → GlobD u) : Goes Tryd.prog S 0 w (.block 1 (.loop (lpc Tryd.f21 1))) (mk1 x y 0) .nrm (mke x y) := by
  refine .loop (n := 63) (fun k => mk1 x y k) (fun k hk => ?_) (end_ hG)
  cases hb : bt k
  · exact rndf hk hb hG
  · exact rndt hk hb hG
end
theorem blk0 : blkc Tryd.f21 1 = .loop (lpc Tryd.f21 1) := by kernel_rfl
set_option maxRecDepth 100000 in
theorem lLoop : ConG Tryd.prog GlobD 21 [.p 12, .p 24] G1K.Pre0 (S15D.oP fun x b y c => S15D.lpA x b y c) := conP lpA_ok (fun _ _ _ _ _ => rfl) (fun x hx b y hy c w hG => by
  have hG' : ∀ u, RowKit.Below w.heap.size w u → GlobD u := fun u hu => hG.keep hu
  cases h1 : onB G1K.K1 (G1K.K1.F.int 4) (ptv G1K.K1 x b)
  · exact fn_outK (N := 9) (XM_ok []) (fun c _ id c' f h => by rw [hooked_nil] at h; cases h) Tryd.func21 hG' (args := [.agg [.nums 12 x, .nm (.bl b)], .agg [.nums 24 y, .nm (.bl c)]]) (q := [false]) (v := (.tup [.agg [.nums 72 (List.replicate 72 0)], .num .i64 120])) (obs := [onB G1K.K1 (G1K.K1.F.int 4) (ptv G1K.K1 x b) = false]) 1 (by kernel_rfl) (hp (h1) trivial) (fun v hv => by
      simp only [List.mem_cons, List.not_mem_nil, or_false] at hv
      rcases hv with rfl | rfl
      · exact ⟨hx, trivial, trivial⟩
      · exact ⟨hy, trivial, trivial⟩) (by rw [lp_off (by rw [h1]; rfl)]) (by first | (simp only [List.map_cons, List.map_nil, G1K.p_den, G2K.p_den, S15D.w_den]; rfl) | simp only [List.map_cons, List.map_nil, G1K.p_den, G2K.p_den, S15D.w_den])
  · cases h2 : onB G2K.K2 G2K.bb (ptv G2K.K2 y c)
    · exact fn_outK (N := 9) (XM_ok []) (fun c _ id c' f h => by rw [hooked_nil] at h; cases h) Tryd.func21 hG' (args := [.agg [.nums 12 x, .nm (.bl b)], .agg [.nums 24 y, .nm (.bl c)]]) (q := [true, false]) (v := (.tup [.agg [.nums 72 (List.replicate 72 0)], .num .i64 120])) (obs := [onB G1K.K1 (G1K.K1.F.int 4) (ptv G1K.K1 x b) = true, onB G2K.K2 G2K.bb (ptv G2K.K2 y c) = false]) 1 (by kernel_rfl) (hp (h1) (hp (h2) trivial)) (fun v hv => by
      simp only [List.mem_cons, List.not_mem_nil, or_false] at hv
      rcases hv with rfl | rfl
      · exact ⟨hx, trivial, trivial⟩
      · exact ⟨hy, trivial, trivial⟩) (by rw [lp_off (by rw [h1, h2]; rfl)]) (by first | (simp only [List.map_cons, List.map_nil, G1K.p_den, G2K.p_den, S15D.w_den]; rfl) | simp only [List.map_cons, List.map_nil, G1K.p_den, G2K.p_den, S15D.w_den])
    · cases b
      · cases c
        · exact fn_outK (N := 9) (XM_ok [(1, hookEv (mk1 x y 0) (mke x y))]) (fn_hooks (l := [(1, blkc Tryd.f21 1, hookEv (mk1 x y 0) (mke x y))]) (by kernel_rfl) ⟨by rw [blk0]; exact (loop hG').does (by kernel_rfl), trivial⟩) Tryd.func21 hG' (args := [.agg [.nums 12 x, .nm (.bl false)], .agg [.nums 24 y, .nm (.bl false)]]) (q := [true, true, false, false]) (v := (.tup [.agg [.nums 72 (F12 (Fp12.kc (v12 (ml x y 63).1)))], .num .i64 0])) (obs := [onB G1K.K1 (G1K.K1.F.int 4) (ptv G1K.K1 x false) = true, onB G2K.K2 G2K.bb (ptv G2K.K2 y false) = true, false = false, false = false, AV.fn 51 [3, 5, 4] = AV.fn 51 [3, 5, 4], 62 = 62 - ((0 : Nat) : Int), [Sg.nums 12 x, Sg.nm (NV.bl false)] = [Sg.nums 12 x, Sg.nm (NV.bl false)], [Sg.nums 24 y, Sg.nm (NV.bl false)] = [Sg.nums 24 y, Sg.nm (NV.bl false)], List.replicate 72 (0 : Int) = List.replicate 72 0, [1] ++ List.replicate 71 0 = (ml x y 0).1, [Sg.nums 24 y, Sg.nm (NV.bl false)] = [Sg.nums 24 y, Sg.nm (NV.bl false)], [Sg.nm (NV.fn 49 [4, 0, 3])] = [Sg.nm (NV.fn 49 [4, 0, 3])]]) 1 (by kernel_rfl) (hp (h1) (hp (h2) (hp (rfl) (hp (rfl) (hp (rfl) (hp (by decide) (hp (rfl) (hp (rfl) (hp (rfl) (hp (rfl) (hp (rfl) (hp (rfl) trivial)))))))))))) (fun v hv => by
      simp only [List.mem_cons, List.not_mem_nil, or_false] at hv
      rcases hv with rfl | rfl
      · exact ⟨hx, trivial, trivial⟩
      · exact ⟨hy, trivial, trivial⟩) (by rw [lp_go (by rw [h1, h2]; rfl)]) (by first | (simp only [List.map_cons, List.map_nil, G1K.p_den, G2K.p_den, S15D.w_den]; rfl) | simp only [List.map_cons, List.map_nil, G1K.p_den, G2K.p_den, S15D.w_den])
        · exact fn_outK (N := 9) (XM_ok []) (fun c _ id c' f h => by rw [hooked_nil] at h; cases h) Tryd.func21 hG' (args := [.agg [.nums 12 x, .nm (.bl false)], .agg [.nums 24 y, .nm (.bl true)]]) (q := [true, true, false, true]) (v := (.tup [.agg [.nums 72 ([1] ++ List.replicate 71 0)], .num .i64 0])) (obs := [onB G1K.K1 (G1K.K1.F.int 4) (ptv G1K.K1 x false) = true, onB G2K.K2 G2K.bb (ptv G2K.K2 y true) = true, false = false, true = true]) 1 (by kernel_rfl) (hp (h1) (hp (h2) (hp (rfl) (hp (rfl) trivial)))) (fun v hv => by
      simp only [List.mem_cons, List.not_mem_nil, or_false] at hv
      rcases hv with rfl | rfl
      · exact ⟨hx, trivial, trivial⟩
      · exact ⟨hy, trivial, trivial⟩) (by rw [lp_one (by rw [h1, h2]; rfl) rfl]; rfl) (by first | (simp only [List.map_cons, List.map_nil, G1K.p_den, G2K.p_den, S15D.w_den]; rfl) | simp only [List.map_cons, List.map_nil, G1K.p_den, G2K.p_den, S15D.w_den])
      · exact fn_outK (N := 9) (XM_ok []) (fun c _ id c' f h => by rw [hooked_nil] at h; cases h) Tryd.func21 hG' (args := [.agg [.nums 12 x, .nm (.bl true)], .agg [.nums 24 y, .nm (.bl c)]]) (q := [true, true, true]) (v := (.tup [.agg [.nums 72 ([1] ++ List.replicate 71 0)], .num .i64 0])) (obs := [onB G1K.K1 (G1K.K1.F.int 4) (ptv G1K.K1 x true) = true, onB G2K.K2 G2K.bb (ptv G2K.K2 y c) = true, true = true]) 1 (by kernel_rfl) (hp (h1) (hp (h2) (hp (rfl) trivial))) (fun v hv => by
      simp only [List.mem_cons, List.not_mem_nil, or_false] at hv
      rcases hv with rfl | rfl
      · exact ⟨hx, trivial, trivial⟩
      · exact ⟨hy, trivial, trivial⟩) (by rw [lp_one (by rw [h1, h2]; rfl) rfl]; rfl) (by first | (simp only [List.map_cons, List.map_nil, G1K.p_den, G2K.p_den, S15D.w_den]; rfl) | simp only [List.map_cons, List.map_nil, G1K.p_den, G2K.p_den, S15D.w_den]))
end Go.Proofs.YtmohopjblhgdiaaDoor.S15O

/-
  Own text. Statements of layer 15.
-/
namespace Go.Proofs.YtmohopjblhgdiaaDoor.S15L
set_option linter.unusedVariables false
set_option linter.unusedSimpArgs false
open Go Go.RowKit Go.Proofs.YtmohopjblhgdiaaDoor.Reg Go.Proofs.YtmohopjblhgdiaaDoor.Base Go.Proofs.YtmohopjblhgdiaaDoor.Limb Go.Proofs.YtmohopjblhgdiaaDoor.Sx Go.Proofs.YtmohopjblhgdiaaDoor.Fp Go.Proofs.YtmohopjblhgdiaaDoor.Fp2 Go.Proofs.YtmohopjblhgdiaaDoor.Fp6 Go.Proofs.YtmohopjblhgdiaaDoor.Fp12 Go.Proofs.YtmohopjblhgdiaaDoor.Ec Go.Proofs.YtmohopjblhgdiaaDoor.Pts Go.Proofs.YtmohopjblhgdiaaDoor.S15D Go.Proofs.YtmohopjblhgdiaaDoor.S15N

set_option maxHeartbeats 1000000
set_option maxRecDepth 100000 in
theorem ek6 : EqOK Tryd.prog 9998 24 6 := eqok_arr (d := 9996) Tryd.underlying24 Tryd.underlying22 (by kernel_rfl) (by kernel_rfl)
set_option maxRecDepth 100000 in
theorem ek2 : EqOK Tryd.prog 9999 26 12 := eqok_parts (n := 6) (m := 2) ek6 Tryd.underlying24 rfl (by kernel_rfl) Tryd.underlying26 (by kernel_rfl) (by kernel_rfl)
set_option maxRecDepth 100000 in
theorem eqokh : EqOK Tryd.prog 10000 33 36 := eqok_parts (n := 12) (m := 3) ek2 Tryd.underlying26 rfl (by kernel_rfl) Tryd.underlying33 (by kernel_rfl) (by kernel_rfl)
set_option maxRecDepth 100000 in
theorem gdh : Tryd.prog.eqGuardType Tryd.prog.depth 33 = false := by kernel_rfl
set_option maxRecDepth 100000 in
theorem lSub12 : Con Tryd.prog GlobD 11 [72, 72] (f2 fun a b => W 72 (F12 (Fp12.ks (v12 a) (v12 b)))) := .w2 S10.X0_ok GlobD.keep Tryd.func11 9 (fun _ _ _ _ => Fp12.Nm.F12 _) (fun _ _ _ _ => rfl) (fun _ _ => by kernel_rfl)
def L0 : List (Fact Tryd.prog GlobD) := S10.qOne.fact (.con Tryd.func16 rfl (by decide) S10.qOne) ::
  S10.lAdd.fact (.con Tryd.func10 rfl (by decide) S10.lAdd) ::
  lSub12.fact (.con Tryd.func11 rfl (by decide) lSub12) ::
  S7.lAdd.fact (.con Tryd.func9 rfl (by decide) S7.lAdd) ::
  S7.lSub.fact (.con Tryd.func19 rfl (by decide) S7.lSub) ::
  S7.lMul.fact (.con Tryd.func20 rfl (by decide) S7.lMul) ::
  S7.lNeg.fact (.con Tryd.func12 rfl (by decide) S7.lNeg) ::
  S7.lScale.fact (.con Tryd.func13 rfl (by decide) S7.lScale) ::
  S7.pReduce.fact (.con Tryd.func14 rfl (by decide) S7.pReduce) ::
  S7.pInv.fact (.con Tryd.func18 rfl (by decide) S7.pInv) ::
  []
def TL : List (FuncId × Ent2) := [(22, entG [.p 12] G1K.Pre0 (G1K.o1 fun x b => .bl (onB G1K.K1 (G1K.K1.F.int 4) (ptv G1K.K1 x b)))), (25, entG [] G1K.Pre0 (S12R.o0 S12R.BP)), (23, entG [.p 24] G2K.Pre0 (G2K.o1 fun x b => .bl (onB G2K.K2 G2K.bb (ptv G2K.K2 x b)))), (17, entG [.p 24, .p 24] G2K.Pre0 (G2K.o2 fun x b y c => G2K.PA (addP G2K.K2.F (ptv G2K.K2 x b) (ptv G2K.K2 y c)))), (24, entG [] G2K.Pre0 (S13R.o0 S13R.BP)), (8, entG [.w 12, .p 24, .p 12] G1K.Pre0 (S15D.oL fun s x b y c => .agg [.nums 72 (S15D.lnW s x y)])), (15, entG [.p 24, .p 24, .p 12] G1K.Pre0 (S15D.oS fun x b y c z d => S15D.stA x b y c z d)), (21, entG [.p 12, .p 24] G1K.Pre0 (S15D.oP fun x b y c => S15D.lpA x b y c))]
theorem TL_ok : TOk2 Tryd.prog GlobD TL := ⟨.conG Tryd.func22 rfl (by decide) S12O.lOn, .conG Tryd.func25 rfl (by decide) S12O.lBase, .conG Tryd.func23 rfl (by decide) S13O.lOn, .conG Tryd.func17 rfl (by decide) S13O.lAdd, .conG Tryd.func24 rfl (by decide) S13O.lBase, .conG Tryd.func8 rfl (by decide) S15O.lLine, .conG Tryd.func15 rfl (by decide) S15O.lStep, .conG Tryd.func21 rfl (by decide) S15O.lLoop, trivial⟩
def XL : Cx := ((Cx.of [(24, 6), (26, 12), (33, 36), (35, 72)] (tb L0)).eqs [(30, 12), (28, 24)]).more TL
theorem XL_ok : CxOk Tryd.prog XL GlobD := ((cx_ok (E := [(24, 6), (26, 12), (33, 36), (35, 72)]) L0 ⟨⟨G1K.eqF, G1K.gdF⟩, ⟨G2K.eqF, G2K.gdF⟩, ⟨eqokh, gdh⟩, ⟨eqokk, gdk⟩, trivial⟩ (by kernel_rfl)).eqs (EM := [(30, 12), (28, 24)]) ⟨⟨G1K.eqG, G1K.gdG⟩, ⟨G2K.eqG, G2K.gdG⟩, trivial⟩).more TL_ok
theorem on_b2 : onB G2K.K2 G2K.bb (ptv G2K.K2 S13R.BL false) = true := by decide +kernel
theorem off1 : onB G1K.K1 (G1K.K1.F.int 4) (ptv G1K.K1 [0, 0, 0, 0, 0, 0, 0, 0, 0, 0, 0, 0] false) = false := by decide +kernel
theorem on_inf : onB G1K.K1 (G1K.K1.F.int 4) (ptv G1K.K1 [0, 0, 0, 0, 0, 0, 0, 0, 0, 0, 0, 0] true) = true := by rw [ptv_t]; rfl
theorem aw1 : lpW [0, 0, 0, 0, 0, 0, 0, 0, 0, 0, 0, 0] true S13R.BL false = O72 := by
  rw [lpW, if_pos (by rw [on_inf, on_b2]; rfl)]
  exact if_pos rfl
theorem aw_sl : (sl S13R.BL S13R.BL).2 = true := by decide +kernel
theorem aw_y : Fp.fe (num (seg 6 6 S12R.BL)) = seg 6 6 S12R.BL := by decide +kernel
theorem aw5 : seg 48 6 (stW S13R.BL false S13R.BL false S12R.BL false) = seg 6 6 S12R.BL := by
  rw [st_ln aw_sl, lnY, aw_y]
set_option maxRecDepth 100000 in
theorem awake : ConG Tryd.prog GlobD 7 [] G1K.Pre0 (S12R.o0 (.val (.bool true))) := S12R.con0 (fun n => trivial) (fun gs => rfl) (fun w hG => fn_outS (N := 9) XL_ok GlobD.keep Tryd.func7 [] (fun s hs => by cases hs) (G1K.noSS hG) (args := []) (q := [true, true, true, true, true]) (v := (.bl true)) (obs := [qb true (lpW [0, 0, 0, 0, 0, 0, 0, 0, 0, 0, 0, 0] true S13R.BL false = O72), qb true ((if (onB G1K.K1 (G1K.K1.F.int 4) (ptv G1K.K1 [0, 0, 0, 0, 0, 0, 0, 0, 0, 0, 0, 0] true) && onB G2K.K2 G2K.bb (ptv G2K.K2 S13R.BL false)) = true then (0 : Int) else 120) = 0), qb true ((if (onB G1K.K1 (G1K.K1.F.int 4) (ptv G1K.K1 [0, 0, 0, 0, 0, 0, 0, 0, 0, 0, 0, 0] false) && onB G2K.K2 G2K.bb (ptv G2K.K2 S13R.BL false)) = true then (0 : Int) else 120) = 120), qb true (ptW G2K.K2 (addP G2K.K2.F (ptv G2K.K2 S13R.BL false) (ptv G2K.K2 S13R.BL false)) = ptW G2K.K2 (addP G2K.K2.F (ptv G2K.K2 S13R.BL false) (ptv G2K.K2 S13R.BL false)) ∧ ptB (addP G2K.K2.F (ptv G2K.K2 S13R.BL false) (ptv G2K.K2 S13R.BL false)) = ptB (addP G2K.K2.F (ptv G2K.K2 S13R.BL false) (ptv G2K.K2 S13R.BL false))), qb true (seg 48 6 (stW S13R.BL false S13R.BL false S12R.BL false) = seg 6 6 S12R.BL)]) 1 (by kernel_rfl) (hp (aw1) (hp (if_pos (by rw [on_inf, on_b2]; rfl)) (hp (if_neg (by rw [off1]; decide)) (hp (⟨rfl, rfl⟩) (hp (aw5) trivial))))) (fun v hv => by cases hv) rfl rfl)
def TA : List (FuncId × Ent2) := [(7, entG [] G1K.Pre0 (S12R.o0 (.val (.bool true)))), (22, entG [.p 12] G1K.Pre0 (G1K.o1 fun x b => .bl (onB G1K.K1 (G1K.K1.F.int 4) (ptv G1K.K1 x b)))), (25, entG [] G1K.Pre0 (S12R.o0 S12R.BP)), (23, entG [.p 24] G2K.Pre0 (G2K.o1 fun x b => .bl (onB G2K.K2 G2K.bb (ptv G2K.K2 x b)))), (17, entG [.p 24, .p 24] G2K.Pre0 (G2K.o2 fun x b y c => G2K.PA (addP G2K.K2.F (ptv G2K.K2 x b) (ptv G2K.K2 y c)))), (24, entG [] G2K.Pre0 (S13R.o0 S13R.BP)), (8, entG [.w 12, .p 24, .p 12] G1K.Pre0 (S15D.oL fun s x b y c => .agg [.nums 72 (S15D.lnW s x y)])), (15, entG [.p 24, .p 24, .p 12] G1K.Pre0 (S15D.oS fun x b y c z d => S15D.stA x b y c z d)), (21, entG [.p 12, .p 24] G1K.Pre0 (S15D.oP fun x b y c => S15D.lpA x b y c))]
theorem TA_ok : TOk2 Tryd.prog GlobD TA := ⟨.conG Tryd.func7 rfl (by decide) awake, .conG Tryd.func22 rfl (by decide) S12O.lOn, .conG Tryd.func25 rfl (by decide) S12O.lBase, .conG Tryd.func23 rfl (by decide) S13O.lOn, .conG Tryd.func17 rfl (by decide) S13O.lAdd, .conG Tryd.func24 rfl (by decide) S13O.lBase, .conG Tryd.func8 rfl (by decide) S15O.lLine, .conG Tryd.func15 rfl (by decide) S15O.lStep, .conG Tryd.func21 rfl (by decide) S15O.lLoop, trivial⟩
def XA : Cx := ((Cx.of [(24, 6), (26, 12), (33, 36), (35, 72)] (tb L0)).eqs [(30, 12), (28, 24)]).more TA
theorem XA_ok : CxOk Tryd.prog XA GlobD := ((cx_ok (E := [(24, 6), (26, 12), (33, 36), (35, 72)]) L0 ⟨⟨G1K.eqF, G1K.gdF⟩, ⟨G2K.eqF, G2K.gdF⟩, ⟨eqokh, gdh⟩, ⟨eqokk, gdk⟩, trivial⟩ (by kernel_rfl)).eqs (EM := [(30, 12), (28, 24)]) ⟨⟨G1K.eqG, G1K.gdG⟩, ⟨G2K.eqG, G2K.gdG⟩, trivial⟩).more TA_ok
theorem far6 (s x : List Int) : seg 36 36 (lnW s x (List.replicate 12 0)) = List.replicate 36 0 := by
  rw [ln6, zn.2, fe_z]
  rfl
theorem farB (s x : List Int) : seg 12 12 (lnW s x (List.replicate 12 0)) = List.replicate 12 0 := by
  rw [lnB, zn.1, gnk_z, F2_z]
set_option maxRecDepth 100000 in
theorem lines (s : List Int) (hs : Nm 12 s) (t : List Int) (ht : Nm 12 t) (x : List Int) (hx : Nm 24 x) (b : Bool) (z : List Int) (hz : Nm 12 z) (d : Bool) (w : World) (hG : GlobD w) : Calls Tryd.prog 3 #[.agg (vals .u64 s), .agg (vals .u64 t), .agg (vals .u64 x ++ #[.bool b]), .agg (vals .u64 z ++ #[.bool d])] w fun e w' => e = .returned (.bool true) ∧ RowKit.Below w.heap.size w w' := by
  exact fn_outS (N := 9) XA_ok GlobD.keep Tryd.func3 [] (fun s hs => by cases hs) (G1K.noSS hG) (args := [.agg [.nums 12 s], .agg [.nums 12 t], .agg [.nums 24 x, .nm (.bl b)], .agg [.nums 12 z, .nm (.bl d)]]) (q := [true, true, true, true]) (v := (.bl true)) (obs := [qb true (F12 (Fp12.ka (v12 (lnW s x z)) (v12 (lnW t x z))) = F12 (Fp12.ka (v12 (lnW (F2 (ga (v2 s) (v2 t))) x z)) (v12 (lnW (List.replicate 12 0) x z)))), qb true (F12 (Fp12.ks (v12 (lnW s x z)) (v12 (lnW s x (List.replicate 12 0)))) = List.replicate 12 0 ++ F2 (gn (v2 (F2 (gk (v2 s) (num (seg 0 6 z)))))) ++ List.replicate 12 0 ++ List.replicate 12 0 ++ Fp.fe (num (seg 6 6 z)) ++ List.replicate 6 0 ++ List.replicate 12 0), qb true (seg 36 36 (lnW s x (List.replicate 12 0)) = List.replicate 36 0), qb true (seg 12 12 (lnW s x (List.replicate 12 0)) = List.replicate 12 0)]) 1 (by kernel_rfl) (hp (e_lin s t x z) (hp (e_far s x z) (hp (far6 s x) (hp (farB s x) trivial)))) (fun v hv => by
      simp only [List.mem_cons, List.not_mem_nil, or_false] at hv
      rcases hv with rfl | rfl | rfl | rfl
      · exact ⟨hs, trivial⟩
      · exact ⟨ht, trivial⟩
      · exact ⟨hx, trivial, trivial⟩
      · exact ⟨hz, trivial, trivial⟩) rfl (by first | (simp only [List.map_cons, List.map_nil, G1K.p_den, G2K.p_den, S15D.w_den]; rfl) | simp only [List.map_cons, List.map_nil, G1K.p_den, G2K.p_den, S15D.w_den])
set_option maxRecDepth 100000 in
theorem sums (x : List Int) (hx : Nm 24 x) (b : Bool) (y : List Int) (hy : Nm 24 y) (c : Bool) (z : List Int) (hz : Nm 12 z) (d : Bool) (w : World) (hG : GlobD w) : Calls Tryd.prog 4 #[.agg (vals .u64 x ++ #[.bool b]), .agg (vals .u64 y ++ #[.bool c]), .agg (vals .u64 z ++ #[.bool d])] w fun e w' => e = .returned (.bool true) ∧ RowKit.Below w.heap.size w w' := by
  cases d
  · cases b
    · cases c
      · cases e : (sl x y).2
        · exact fn_outS (N := 9) XA_ok GlobD.keep Tryd.func4 [] (fun s hs => by cases hs) (G1K.noSS hG) (args := [.agg [.nums 24 x, .nm (.bl false)], .agg [.nums 24 y, .nm (.bl false)], .agg [.nums 12 z, .nm (.bl false)]]) (q := [true, false, false, false, true, true]) (v := (.bl true)) (obs := [qb true (ptW G2K.K2 (addP G2K.K2.F (ptv G2K.K2 x false) (ptv G2K.K2 y false)) = ptW G2K.K2 (addP G2K.K2.F (ptv G2K.K2 x false) (ptv G2K.K2 y false)) ∧ ptB (addP G2K.K2.F (ptv G2K.K2 x false) (ptv G2K.K2 y false)) = ptB (addP G2K.K2.F (ptv G2K.K2 x false) (ptv G2K.K2 y false))), false = false, false = false, false = false, ptB (addP G2K.K2.F (ptv G2K.K2 x false) (ptv G2K.K2 y false)) = true, qb true (seg 36 36 (stW x false y false z false) = List.replicate 36 0)]) 1 (by kernel_rfl) (hp (⟨rfl, rfl⟩) (hp (rfl) (hp (rfl) (hp (rfl) (hp (no_b e) (hp ((by rw [st_vt e]; exact vt6 x z)) trivial)))))) (fun v hv => by
      simp only [List.mem_cons, List.not_mem_nil, or_false] at hv
      rcases hv with rfl | rfl | rfl
      · exact ⟨hx, trivial, trivial⟩
      · exact ⟨hy, trivial, trivial⟩
      · exact ⟨hz, trivial, trivial⟩) rfl (by first | (simp only [List.map_cons, List.map_nil, G1K.p_den, G2K.p_den, S15D.w_den]; rfl) | simp only [List.map_cons, List.map_nil, G1K.p_den, G2K.p_den, S15D.w_den])
        · exact fn_outS (N := 9) XA_ok GlobD.keep Tryd.func4 [] (fun s hs => by cases hs) (G1K.noSS hG) (args := [.agg [.nums 24 x, .nm (.bl false)], .agg [.nums 24 y, .nm (.bl false)], .agg [.nums 12 z, .nm (.bl false)]]) (q := [true, false, false, false, false, false, true]) (v := (.bl true)) (obs := [qb true (ptW G2K.K2 (addP G2K.K2.F (ptv G2K.K2 x false) (ptv G2K.K2 y false)) = ptW G2K.K2 (addP G2K.K2.F (ptv G2K.K2 x false) (ptv G2K.K2 y false)) ∧ ptB (addP G2K.K2.F (ptv G2K.K2 x false) (ptv G2K.K2 y false)) = ptB (addP G2K.K2.F (ptv G2K.K2 x false) (ptv G2K.K2 y false))), false = false, false = false, false = false, ptB (addP G2K.K2.F (ptv G2K.K2 x false) (ptv G2K.K2 y false)) = false, ptB (addP G2K.K2.F (ptv G2K.K2 x false) (ptv G2K.K2 y false)) = false, qb true (seg 48 6 (stW x false y false z false) = Fp.fe (num (seg 6 6 z)))]) 1 (by kernel_rfl) (hp (⟨rfl, rfl⟩) (hp (rfl) (hp (rfl) (hp (rfl) (hp (yes_b e) (hp (yes_b e) (hp ((by rw [st_ln e]; exact lnY _ x z)) trivial))))))) (fun v hv => by
      simp only [List.mem_cons, List.not_mem_nil, or_false] at hv
      rcases hv with rfl | rfl | rfl
      · exact ⟨hx, trivial, trivial⟩
      · exact ⟨hy, trivial, trivial⟩
      · exact ⟨hz, trivial, trivial⟩) rfl (by first | (simp only [List.map_cons, List.map_nil, G1K.p_den, G2K.p_den, S15D.w_den]; rfl) | simp only [List.map_cons, List.map_nil, G1K.p_den, G2K.p_den, S15D.w_den])
      · exact fn_outS (N := 9) XA_ok GlobD.keep Tryd.func4 [] (fun s hs => by cases hs) (G1K.noSS hG) (args := [.agg [.nums 24 x, .nm (.bl false)], .agg [.nums 24 y, .nm (.bl true)], .agg [.nums 12 z, .nm (.bl false)]]) (q := [true, false, false, true, true]) (v := (.bl true)) (obs := [qb true (ptW G2K.K2 (addP G2K.K2.F (ptv G2K.K2 x false) (ptv G2K.K2 y true)) = ptW G2K.K2 (addP G2K.K2.F (ptv G2K.K2 x false) (ptv G2K.K2 y true)) ∧ ptB (addP G2K.K2.F (ptv G2K.K2 x false) (ptv G2K.K2 y true)) = ptB (addP G2K.K2.F (ptv G2K.K2 x false) (ptv G2K.K2 y true))), false = false, false = false, true = true, qb true (stW x false y true z false = O72)]) 1 (by kernel_rfl) (hp (⟨rfl, rfl⟩) (hp (rfl) (hp (rfl) (hp (rfl) (hp (st_one rfl) trivial))))) (fun v hv => by
      simp only [List.mem_cons, List.not_mem_nil, or_false] at hv
      rcases hv with rfl | rfl | rfl
      · exact ⟨hx, trivial, trivial⟩
      · exact ⟨hy, trivial, trivial⟩
      · exact ⟨hz, trivial, trivial⟩) rfl (by first | (simp only [List.map_cons, List.map_nil, G1K.p_den, G2K.p_den, S15D.w_den]; rfl) | simp only [List.map_cons, List.map_nil, G1K.p_den, G2K.p_den, S15D.w_den])
    · exact fn_outS (N := 9) XA_ok GlobD.keep Tryd.func4 [] (fun s hs => by cases hs) (G1K.noSS hG) (args := [.agg [.nums 24 x, .nm (.bl true)], .agg [.nums 24 y, .nm (.bl c)], .agg [.nums 12 z, .nm (.bl false)]]) (q := [true, false, true, true]) (v := (.bl true)) (obs := [qb true (ptW G2K.K2 (addP G2K.K2.F (ptv G2K.K2 x true) (ptv G2K.K2 y c)) = ptW G2K.K2 (addP G2K.K2.F (ptv G2K.K2 x true) (ptv G2K.K2 y c)) ∧ ptB (addP G2K.K2.F (ptv G2K.K2 x true) (ptv G2K.K2 y c)) = ptB (addP G2K.K2.F (ptv G2K.K2 x true) (ptv G2K.K2 y c))), false = false, true = true, qb true (stW x true y c z false = O72)]) 1 (by kernel_rfl) (hp (⟨rfl, rfl⟩) (hp (rfl) (hp (rfl) (hp (st_one rfl) trivial)))) (fun v hv => by
      simp only [List.mem_cons, List.not_mem_nil, or_false] at hv
      rcases hv with rfl | rfl | rfl
      · exact ⟨hx, trivial, trivial⟩
      · exact ⟨hy, trivial, trivial⟩
      · exact ⟨hz, trivial, trivial⟩) rfl (by first | (simp only [List.map_cons, List.map_nil, G1K.p_den, G2K.p_den, S15D.w_den]; rfl) | simp only [List.map_cons, List.map_nil, G1K.p_den, G2K.p_den, S15D.w_den])
  · exact fn_outS (N := 9) XA_ok GlobD.keep Tryd.func4 [] (fun s hs => by cases hs) (G1K.noSS hG) (args := [.agg [.nums 24 x, .nm (.bl b)], .agg [.nums 24 y, .nm (.bl c)], .agg [.nums 12 z, .nm (.bl true)]]) (q := [true, true, true]) (v := (.bl true)) (obs := [qb true (ptW G2K.K2 (addP G2K.K2.F (ptv G2K.K2 x b) (ptv G2K.K2 y c)) = ptW G2K.K2 (addP G2K.K2.F (ptv G2K.K2 x b) (ptv G2K.K2 y c)) ∧ ptB (addP G2K.K2.F (ptv G2K.K2 x b) (ptv G2K.K2 y c)) = ptB (addP G2K.K2.F (ptv G2K.K2 x b) (ptv G2K.K2 y c))), true = true, qb true (stW x b y c z true = O72)]) 1 (by kernel_rfl) (hp (⟨rfl, rfl⟩) (hp (rfl) (hp (st_one rfl) trivial))) (fun v hv => by
      simp only [List.mem_cons, List.not_mem_nil, or_false] at hv
      rcases hv with rfl | rfl | rfl
      · exact ⟨hx, trivial, trivial⟩
      · exact ⟨hy, trivial, trivial⟩
      · exact ⟨hz, trivial, trivial⟩) rfl (by first | (simp only [List.map_cons, List.map_nil, G1K.p_den, G2K.p_den, S15D.w_den]; rfl) | simp only [List.map_cons, List.map_nil, G1K.p_den, G2K.p_den, S15D.w_den])
set_option maxRecDepth 100000 in
theorem through (x : List Int) (hx : Nm 24 x) (b : Bool) (y : List Int) (hy : Nm 24 y) (c : Bool) (z : List Int) (hz : Nm 12 z) (d : Bool) (w : World) (hG : GlobD w) : Calls Tryd.prog 5 #[.agg (vals .u64 x ++ #[.bool b]), .agg (vals .u64 y ++ #[.bool c]), .agg (vals .u64 z ++ #[.bool d])] w fun e w' => e = .returned (.bool true) ∧ RowKit.Below w.heap.size w w' := by
  cases h0 : ptB (addP G2K.K2.F (ptv G2K.K2 x b) (ptv G2K.K2 y c))
  · cases b
    · cases c
      · cases d
        · by_cases hz0 : Fp.fe (num (seg 0 6 z)) = [0, 0, 0, 0, 0, 0]
          · exact fn_outS (N := 9) XA_ok GlobD.keep Tryd.func5 [] (fun s hs => by cases hs) (G1K.noSS hG) (args := [.agg [.nums 24 x, .nm (.bl false)], .agg [.nums 24 y, .nm (.bl false)], .agg [.nums 12 z, .nm (.bl false)]]) (q := [false, false, false, false, true]) (v := (.bl true)) (obs := [ptB (addP G2K.K2.F (ptv G2K.K2 x false) (ptv G2K.K2 y false)) = false, false = false, false = false, false = false, qb true (Fp.fe (num (seg 0 6 z)) = [0, 0, 0, 0, 0, 0])]) 1 (by kernel_rfl) (hp (h0) (hp (rfl) (hp (rfl) (hp (rfl) (hp (hz0) trivial))))) (fun v hv => by
      simp only [List.mem_cons, List.not_mem_nil, or_false] at hv
      rcases hv with rfl | rfl | rfl
      · exact ⟨hx, trivial, trivial⟩
      · exact ⟨hy, trivial, trivial⟩
      · exact ⟨hz, trivial, trivial⟩) rfl (by first | (simp only [List.map_cons, List.map_nil, G1K.p_den, G2K.p_den, S15D.w_den]; rfl) | simp only [List.map_cons, List.map_nil, G1K.p_den, G2K.p_den, S15D.w_den])
          · have e := of_b h0
            exact fn_outS (N := 9) XA_ok GlobD.keep Tryd.func5 [] (fun s hs => by cases hs) (G1K.noSS hG) (args := [.agg [.nums 24 x, .nm (.bl false)], .agg [.nums 24 y, .nm (.bl false)], .agg [.nums 12 z, .nm (.bl false)]]) (q := [false, false, false, false, false, true, true, true]) (v := (.bl true)) (obs := [ptB (addP G2K.K2.F (ptv G2K.K2 x false) (ptv G2K.K2 y false)) = false, false = false, false = false, false = false, qb false (Fp.fe (num (seg 0 6 z)) = [0, 0, 0, 0, 0, 0]), qb true (seg 0 12 (stW x false y false z false) = lvW (slB (stW x false y false z false) z) x), qb true (lvW (slB (stW x false y false z false) z) x = lvW (slB (stW x false y false z false) z) y), qb true (F2 (ga (v2 (F2 (gm (v2 (slB (stW x false y false z false) z)) (v2 (seg 0 12 (ptW G2K.K2 (addP G2K.K2.F (ptv G2K.K2 x false) (ptv G2K.K2 y false)))))))) (v2 (seg 12 12 (ptW G2K.K2 (addP G2K.K2.F (ptv G2K.K2 x false) (ptv G2K.K2 y false)))))) = lvW (slB (stW x false y false z false) z) y)]) 1 (by kernel_rfl) (hp (h0) (hp (rfl) (hp (rfl) (hp (rfl) (hp (hz0) (hp (th_one e hz0) (hp (th_two e hz0) (hp (th_three e hz0) trivial)))))))) (fun v hv => by
      simp only [List.mem_cons, List.not_mem_nil, or_false] at hv
      rcases hv with rfl | rfl | rfl
      · exact ⟨hx, trivial, trivial⟩
      · exact ⟨hy, trivial, trivial⟩
      · exact ⟨hz, trivial, trivial⟩) rfl (by first | (simp only [List.map_cons, List.map_nil, G1K.p_den, G2K.p_den, S15D.w_den]; rfl) | simp only [List.map_cons, List.map_nil, G1K.p_den, G2K.p_den, S15D.w_den])
        · exact fn_outS (N := 9) XA_ok GlobD.keep Tryd.func5 [] (fun s hs => by cases hs) (G1K.noSS hG) (args := [.agg [.nums 24 x, .nm (.bl false)], .agg [.nums 24 y, .nm (.bl false)], .agg [.nums 12 z, .nm (.bl true)]]) (q := [false, false, false, true]) (v := (.bl true)) (obs := [ptB (addP G2K.K2.F (ptv G2K.K2 x false) (ptv G2K.K2 y false)) = false, false = false, false = false, true = true]) 1 (by kernel_rfl) (hp (h0) (hp (rfl) (hp (rfl) (hp (rfl) trivial)))) (fun v hv => by
      simp only [List.mem_cons, List.not_mem_nil, or_false] at hv
      rcases hv with rfl | rfl | rfl
      · exact ⟨hx, trivial, trivial⟩
      · exact ⟨hy, trivial, trivial⟩
      · exact ⟨hz, trivial, trivial⟩) rfl (by first | (simp only [List.map_cons, List.map_nil, G1K.p_den, G2K.p_den, S15D.w_den]; rfl) | simp only [List.map_cons, List.map_nil, G1K.p_den, G2K.p_den, S15D.w_den])
      · exact fn_outS (N := 9) XA_ok GlobD.keep Tryd.func5 [] (fun s hs => by cases hs) (G1K.noSS hG) (args := [.agg [.nums 24 x, .nm (.bl false)], .agg [.nums 24 y, .nm (.bl true)], .agg [.nums 12 z, .nm (.bl d)]]) (q := [false, false, true]) (v := (.bl true)) (obs := [ptB (addP G2K.K2.F (ptv G2K.K2 x false) (ptv G2K.K2 y true)) = false, false = false, true = true]) 1 (by kernel_rfl) (hp (h0) (hp (rfl) (hp (rfl) trivial))) (fun v hv => by
      simp only [List.mem_cons, List.not_mem_nil, or_false] at hv
      rcases hv with rfl | rfl | rfl
      · exact ⟨hx, trivial, trivial⟩
      · exact ⟨hy, trivial, trivial⟩
      · exact ⟨hz, trivial, trivial⟩) rfl (by first | (simp only [List.map_cons, List.map_nil, G1K.p_den, G2K.p_den, S15D.w_den]; rfl) | simp only [List.map_cons, List.map_nil, G1K.p_den, G2K.p_den, S15D.w_den])
    · exact fn_outS (N := 9) XA_ok GlobD.keep Tryd.func5 [] (fun s hs => by cases hs) (G1K.noSS hG) (args := [.agg [.nums 24 x, .nm (.bl true)], .agg [.nums 24 y, .nm (.bl c)], .agg [.nums 12 z, .nm (.bl d)]]) (q := [false, true]) (v := (.bl true)) (obs := [ptB (addP G2K.K2.F (ptv G2K.K2 x true) (ptv G2K.K2 y c)) = false, true = true]) 1 (by kernel_rfl) (hp (h0) (hp (rfl) trivial)) (fun v hv => by
      simp only [List.mem_cons, List.not_mem_nil, or_false] at hv
      rcases hv with rfl | rfl | rfl
      · exact ⟨hx, trivial, trivial⟩
      · exact ⟨hy, trivial, trivial⟩
      · exact ⟨hz, trivial, trivial⟩) rfl (by first | (simp only [List.map_cons, List.map_nil, G1K.p_den, G2K.p_den, S15D.w_den]; rfl) | simp only [List.map_cons, List.map_nil, G1K.p_den, G2K.p_den, S15D.w_den])
  · exact fn_outS (N := 9) XA_ok GlobD.keep Tryd.func5 [] (fun s hs => by cases hs) (G1K.noSS hG) (args := [.agg [.nums 24 x, .nm (.bl b)], .agg [.nums 24 y, .nm (.bl c)], .agg [.nums 12 z, .nm (.bl d)]]) (q := [true]) (v := (.bl true)) (obs := [ptB (addP G2K.K2.F (ptv G2K.K2 x b) (ptv G2K.K2 y c)) = true]) 1 (by kernel_rfl) (hp (h0) trivial) (fun v hv => by
      simp only [List.mem_cons, List.not_mem_nil, or_false] at hv
      rcases hv with rfl | rfl | rfl
      · exact ⟨hx, trivial, trivial⟩
      · exact ⟨hy, trivial, trivial⟩
      · exact ⟨hz, trivial, trivial⟩) rfl (by first | (simp only [List.map_cons, List.map_nil, G1K.p_den, G2K.p_den, S15D.w_den]; rfl) | simp only [List.map_cons, List.map_nil, G1K.p_den, G2K.p_den, S15D.w_den])
theorem lpW_off {x y : List Int} {b c : Bool} (h : (onB G1K.K1 (G1K.K1.F.int 4) (ptv G1K.K1 x b) && onB G2K.K2 G2K.bb (ptv G2K.K2 y c)) = false) : lpW x b y c = List.replicate 72 0 := if_neg (by rw [h]; decide)
theorem lpW_one {x y : List Int} {b c : Bool} (h : (onB G1K.K1 (G1K.K1.F.int 4) (ptv G1K.K1 x b) && onB G2K.K2 G2K.bb (ptv G2K.K2 y c)) = true) (h2 : (b || c) = true) : lpW x b y c = O72 := (if_pos h).trans (if_pos h2)
set_option maxRecDepth 100000 in
theorem none (x : List Int) (hx : Nm 12 x) (b : Bool) (y : List Int) (hy : Nm 24 y) (c : Bool) (w : World) (hG : GlobD w) : Calls Tryd.prog 6 #[.agg (vals .u64 x ++ #[.bool b]), .agg (vals .u64 y ++ #[.bool c])] w fun e w' => e = .returned (.bool true) ∧ RowKit.Below w.heap.size w w' := by
  cases h1 : onB G1K.K1 (G1K.K1.F.int 4) (ptv G1K.K1 x b)
  · exact fn_outS (N := 9) XA_ok GlobD.keep Tryd.func6 [] (fun s hs => by cases hs) (G1K.noSS hG) (args := [.agg [.nums 12 x, .nm (.bl b)], .agg [.nums 24 y, .nm (.bl c)]]) (q := [false, true, true]) (v := (.bl true)) (obs := [onB G1K.K1 (G1K.K1.F.int 4) (ptv G1K.K1 x b) = false, qb true ((if (onB G1K.K1 (G1K.K1.F.int 4) (ptv G1K.K1 x b) && onB G2K.K2 G2K.bb (ptv G2K.K2 y c)) = true then (0 : Int) else 120) = 120), qb true (lpW x b y c = List.replicate 72 0)]) 1 (by kernel_rfl) (hp (h1) (hp ((if_neg (by rw [h1, Bool.false_and]; decide))) (hp (lpW_off (by rw [h1]; rfl)) trivial))) (fun v hv => by
      simp only [List.mem_cons, List.not_mem_nil, or_false] at hv
      rcases hv with rfl | rfl
      · exact ⟨hx, trivial, trivial⟩
      · exact ⟨hy, trivial, trivial⟩) rfl (by first | (simp only [List.map_cons, List.map_nil, G1K.p_den, G2K.p_den, S15D.w_den]; rfl) | simp only [List.map_cons, List.map_nil, G1K.p_den, G2K.p_den, S15D.w_den])
  · cases h2 : onB G2K.K2 G2K.bb (ptv G2K.K2 y c)
    · exact fn_outS (N := 9) XA_ok GlobD.keep Tryd.func6 [] (fun s hs => by cases hs) (G1K.noSS hG) (args := [.agg [.nums 12 x, .nm (.bl b)], .agg [.nums 24 y, .nm (.bl c)]]) (q := [true, false, true, true]) (v := (.bl true)) (obs := [onB G1K.K1 (G1K.K1.F.int 4) (ptv G1K.K1 x b) = true, onB G2K.K2 G2K.bb (ptv G2K.K2 y c) = false, qb true ((if (onB G1K.K1 (G1K.K1.F.int 4) (ptv G1K.K1 x b) && onB G2K.K2 G2K.bb (ptv G2K.K2 y c)) = true then (0 : Int) else 120) = 120), qb true (lpW x b y c = List.replicate 72 0)]) 1 (by kernel_rfl) (hp (h1) (hp (h2) (hp ((if_neg (by rw [h1, h2]; decide))) (hp (lpW_off (by rw [h1, h2]; rfl)) trivial)))) (fun v hv => by
      simp only [List.mem_cons, List.not_mem_nil, or_false] at hv
      rcases hv with rfl | rfl
      · exact ⟨hx, trivial, trivial⟩
      · exact ⟨hy, trivial, trivial⟩) rfl (by first | (simp only [List.map_cons, List.map_nil, G1K.p_den, G2K.p_den, S15D.w_den]; rfl) | simp only [List.map_cons, List.map_nil, G1K.p_den, G2K.p_den, S15D.w_den])
    · have hon : (onB G1K.K1 (G1K.K1.F.int 4) (ptv G1K.K1 x b) && onB G2K.K2 G2K.bb (ptv G2K.K2 y c)) = true := by rw [h1, h2]; rfl
      cases b
      · cases c
        · exact fn_outS (N := 9) XA_ok GlobD.keep Tryd.func6 [] (fun s hs => by cases hs) (G1K.noSS hG) (args := [.agg [.nums 12 x, .nm (.bl false)], .agg [.nums 24 y, .nm (.bl false)]]) (q := [true, true, false, false, true]) (v := (.bl true)) (obs := [onB G1K.K1 (G1K.K1.F.int 4) (ptv G1K.K1 x false) = true, onB G2K.K2 G2K.bb (ptv G2K.K2 y false) = true, false = false, false = false, qb true ((if (onB G1K.K1 (G1K.K1.F.int 4) (ptv G1K.K1 x false) && onB G2K.K2 G2K.bb (ptv G2K.K2 y false)) = true then (0 : Int) else 120) = 0)]) 1 (by kernel_rfl) (hp (h1) (hp (h2) (hp (rfl) (hp (rfl) (hp (if_pos hon) trivial))))) (fun v hv => by
      simp only [List.mem_cons, List.not_mem_nil, or_false] at hv
      rcases hv with rfl | rfl
      · exact ⟨hx, trivial, trivial⟩
      · exact ⟨hy, trivial, trivial⟩) rfl (by first | (simp only [List.map_cons, List.map_nil, G1K.p_den, G2K.p_den, S15D.w_den]; rfl) | simp only [List.map_cons, List.map_nil, G1K.p_den, G2K.p_den, S15D.w_den])
        · exact fn_outS (N := 9) XA_ok GlobD.keep Tryd.func6 [] (fun s hs => by cases hs) (G1K.noSS hG) (args := [.agg [.nums 12 x, .nm (.bl false)], .agg [.nums 24 y, .nm (.bl true)]]) (q := [true, true, false, true, true, true]) (v := (.bl true)) (obs := [onB G1K.K1 (G1K.K1.F.int 4) (ptv G1K.K1 x false) = true, onB G2K.K2 G2K.bb (ptv G2K.K2 y true) = true, false = false, true = true, qb true ((if (onB G1K.K1 (G1K.K1.F.int 4) (ptv G1K.K1 x false) && onB G2K.K2 G2K.bb (ptv G2K.K2 y true)) = true then (0 : Int) else 120) = 0), qb true (lpW x false y true = O72)]) 1 (by kernel_rfl) (hp (h1) (hp (h2) (hp (rfl) (hp (rfl) (hp (if_pos hon) (hp (lpW_one hon rfl) trivial)))))) (fun v hv => by
      simp only [List.mem_cons, List.not_mem_nil, or_false] at hv
      rcases hv with rfl | rfl
      · exact ⟨hx, trivial, trivial⟩
      · exact ⟨hy, trivial, trivial⟩) rfl (by first | (simp only [List.map_cons, List.map_nil, G1K.p_den, G2K.p_den, S15D.w_den]; rfl) | simp only [List.map_cons, List.map_nil, G1K.p_den, G2K.p_den, S15D.w_den])
      · exact fn_outS (N := 9) XA_ok GlobD.keep Tryd.func6 [] (fun s hs => by cases hs) (G1K.noSS hG) (args := [.agg [.nums 12 x, .nm (.bl true)], .agg [.nums 24 y, .nm (.bl c)]]) (q := [true, true, true, true, true]) (v := (.bl true)) (obs := [onB G1K.K1 (G1K.K1.F.int 4) (ptv G1K.K1 x true) = true, onB G2K.K2 G2K.bb (ptv G2K.K2 y c) = true, true = true, qb true ((if (onB G1K.K1 (G1K.K1.F.int 4) (ptv G1K.K1 x true) && onB G2K.K2 G2K.bb (ptv G2K.K2 y c)) = true then (0 : Int) else 120) = 0), qb true (lpW x true y c = O72)]) 1 (by kernel_rfl) (hp (h1) (hp (h2) (hp (rfl) (hp (if_pos hon) (hp (lpW_one hon rfl) trivial))))) (fun v hv => by
      simp only [List.mem_cons, List.not_mem_nil, or_false] at hv
      rcases hv with rfl | rfl
      · exact ⟨hx, trivial, trivial⟩
      · exact ⟨hy, trivial, trivial⟩) rfl (by first | (simp only [List.map_cons, List.map_nil, G1K.p_den, G2K.p_den, S15D.w_den]; rfl) | simp only [List.map_cons, List.map_nil, G1K.p_den, G2K.p_den, S15D.w_den])
end Go.Proofs.YtmohopjblhgdiaaDoor.S15L

