/-
  Own text. Statements of layer 9 by the reckoner.
-/
import Derived.Test.YtpkbbdhpdplkeaaDoorS9
import Derived.Test.YtpkbbdhpdplkeaaDoorFp6Eq
import Derived.Test.YtpkbbdhpdplkeaaDoorFp6Lem
namespace Go.Proofs.YtpkbbdhpdplkeaaDoor.S9L
set_option linter.unusedVariables false
set_option linter.unusedSimpArgs false
open Go Go.RowKit Go.Proofs.YtpkbbdhpdplkeaaDoor.Reg Go.Proofs.YtpkbbdhpdplkeaaDoor.Base Go.Proofs.YtpkbbdhpdplkeaaDoor.Limb Go.Proofs.YtpkbbdhpdplkeaaDoor.Sx Go.Proofs.YtpkbbdhpdplkeaaDoor.Fp Go.Proofs.YtpkbbdhpdplkeaaDoor.Fp2 Go.Proofs.YtpkbbdhpdplkeaaDoor.Fp6 Go.Proofs.YtpkbbdhpdplkeaaDoor.Fp6L

theorem ht {x y : List Int} {l : List Ob} (h : x = y) (r : Holds l) : Holds (⟨decide (x = y), true⟩ :: l) := ⟨decide_eq_true h, r⟩
def L0 : List (Fact Tryd.prog GlobD) := S9.lReduce.fact (.con Tryd.func10 rfl (by decide) S9.lReduce) ::
  S9.lAdd.fact (.con Tryd.func12 rfl (by decide) S9.lAdd) ::
  S9.lSub.fact (.con Tryd.func14 rfl (by decide) S9.lSub) ::
  S9.lNeg.fact (.con Tryd.func16 rfl (by decide) S9.lNeg) ::
  S9.lScale.fact (.con Tryd.func18 rfl (by decide) S9.lScale) ::
  S9.lV.fact (.con Tryd.func24 rfl (by decide) S9.lV) ::
  S9.lMul.fact (.con Tryd.func20 rfl (by decide) S9.lMul) ::
  S9.lInv.fact (.con Tryd.func22 rfl (by decide) S9.lInv) ::
  S9.qReduce.fact (.con Tryd.func11 rfl (by decide) S9.qReduce) ::
  S9.qAdd.fact (.con Tryd.func13 rfl (by decide) S9.qAdd) ::
  S9.qSub.fact (.con Tryd.func15 rfl (by decide) S9.qSub) ::
  S9.qNeg.fact (.con Tryd.func17 rfl (by decide) S9.qNeg) ::
  S9.qScale.fact (.con Tryd.func19 rfl (by decide) S9.qScale) ::
  S9.qV.fact (.con Tryd.func25 rfl (by decide) S9.qV) ::
  S9.qMul.fact (.con Tryd.func21 rfl (by decide) S9.qMul) ::
  S9.qInv.fact (.con Tryd.func23 rfl (by decide) S9.qInv) ::
  []
def X0 : Cx := ⟨[(28, 36)], tb L0⟩
theorem X0_ok : CxOk Tryd.prog X0 GlobD := cx_ok L0 ⟨⟨eqokh, gdh⟩, trivial⟩ (by kernel_rfl)
set_option maxRecDepth 100000 in
theorem one : Con Tryd.prog GlobD 26 [] (f0 (W 36 O36l)) := .of0 X0_ok GlobD.keep Tryd.func26 9 [] (zs := W 36 O36l) (obs := []) (w_ok ⟨rfl, words_of _ (by decide)⟩) rfl ⟨rfl, trivial⟩ (by kernel_rfl)
def L1 : List (Fact Tryd.prog GlobD) := one.fact (.con Tryd.func26 rfl (by decide) one) ::
  L0
def X1 : Cx := ⟨[(28, 36)], tb L1⟩
theorem X1_ok : CxOk Tryd.prog X1 GlobD := cx_ok L1 ⟨⟨eqokh, gdh⟩, trivial⟩ (by kernel_rfl)
set_option maxRecDepth 100000 in
theorem awake : Con Tryd.prog GlobD 9 [] (f0 (.val (.bool true))) := .of0 X1_ok GlobD.keep Tryd.func9 9 [true, true, true, true, true] (zs := .val (.bool true)) (obs := [⟨decide (F6 (hm (v6 V36d) (v6 V36d)) = C36d), true⟩, ⟨decide (F6 (hm (v6 V36d) (v6 C36d)) = X36d), true⟩, ⟨decide (F6 (hv (v6 C36d)) = X36d), true⟩, ⟨decide (F6 (hi (v6 N36d)) = N36d), true⟩, ⟨decide (F6 (hm (v6 (F6 (hi (v6 V36d)))) (v6 V36d)) = O36l), true⟩]) (fun _ => trivial) rfl ⟨rfl, ht aw_e1 (ht aw_e2 (ht aw_e3 (ht aw_e4 (ht aw_e5 trivial))))⟩ (by kernel_rfl)
def L2 : List (Fact Tryd.prog GlobD) := awake.fact (.con Tryd.func9 rfl (by decide) awake) ::
  L1
def X2 : Cx := ⟨[(28, 36)], tb L2⟩
theorem X2_ok : CxOk Tryd.prog X2 GlobD := cx_ok L2 ⟨⟨eqokh, gdh⟩, trivial⟩ (by kernel_rfl)
set_option maxRecDepth 100000 in
theorem sums : Con Tryd.prog GlobD 3 [36, 36, 12] (f3 fun a b k => .val (.bool true)) := .of3 X2_ok GlobD.keep Tryd.func3 9 [true, true, true, true, true] (zs := fun a b k => .val (.bool true)) (obs := fun a b k => [⟨decide (F6 (v6 a) = F6 (v6 a)), true⟩, ⟨decide (F6 (Fp6.ha (v6 a) (v6 b)) = F6 (Fp6.ha (v6 a) (v6 b))), true⟩, ⟨decide (F6 (Fp6.hs (v6 a) (v6 b)) = F6 (Fp6.hs (v6 a) (v6 b))), true⟩, ⟨decide (F6 (Fp6.hn (v6 a)) = F6 (Fp6.hn (v6 a))), true⟩, ⟨decide (F6 (Fp6.hk (v6 a) (v2 k)) = F6 (Fp6.hk (v6 a) (v2 k))), true⟩]) (fun _ _ _ _ _ _ _ => trivial) (fun _ _ _ => rfl) (fun _ _ _ _ _ _ => ⟨rfl, ht rfl (ht rfl (ht rfl (ht rfl (ht rfl trivial))))⟩) (fun _ _ _ => by kernel_rfl)
end Go.Proofs.YtpkbbdhpdplkeaaDoor.S9L
