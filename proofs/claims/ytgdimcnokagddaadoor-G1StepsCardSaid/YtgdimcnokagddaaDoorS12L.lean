/-
  Own text. Statements of layer 12 by the reckoner.
-/
import Derived.Test.YtgdimcnokagddaaDoorS12R
import Derived.Test.YtgdimcnokagddaaDoorMPt
import Derived.Test.YtgdimcnokagddaaDoorS12O
namespace Go.Proofs.YtgdimcnokagddaaDoor.S12L
set_option linter.unusedVariables false
set_option linter.unusedSimpArgs false
open Go Go.RowKit Go.Proofs.YtgdimcnokagddaaDoor.Reg Go.Proofs.YtgdimcnokagddaaDoor.Base Go.Proofs.YtgdimcnokagddaaDoor.Limb Go.Proofs.YtgdimcnokagddaaDoor.Sx Go.Proofs.YtgdimcnokagddaaDoor.Fp Go.Proofs.YtgdimcnokagddaaDoor.Fp2 Go.Proofs.YtgdimcnokagddaaDoor.Ec Go.Proofs.YtgdimcnokagddaaDoor.Pts Go.Proofs.YtgdimcnokagddaaDoor.G1K Go.Proofs.YtgdimcnokagddaaDoor.S12R

def L0 : List (Fact Tryd.prog GlobD) := []
def TQ : List (FuncId × Ent2) := [(19, entG [.p 12] Pre0 (o1 fun x b => PA (ptv K1 x b))), (17, entG [.p 12] Pre0 (o1 fun x b => PA (negP K1.F (ptv K1 x b)))), (21, entG [.p 12] Pre0 (o1 fun x b => .bl (onB K1 (K1.F.int 4) (ptv K1 x b)))), (15, entG [.p 12, .p 12] Pre0 (o2 fun x b y c => PA (addP K1.F (ptv K1 x b) (ptv K1 y c)))), (23, entG [.sl, .p 12] Pre0 (oM mulA)), (13, entG [] Pre0 (o0 BP))]
theorem TQ_ok : TOk2 Tryd.prog GlobD TQ := ⟨.conG Tryd.func19 rfl (by decide) qReduce, .conG Tryd.func17 rfl (by decide) qNeg, .conG Tryd.func21 rfl (by decide) qOn, .conG Tryd.func15 rfl (by decide) qAdd, .conG Tryd.func23 rfl (by decide) qMul, .conG Tryd.func13 rfl (by decide) qBase, trivial⟩
def XQ : Cx := ((Cx.of [(25, 6)] (tb L0)).eqs [(27, 12)]).more TQ
theorem XQ_ok : CxOk Tryd.prog XQ GlobD := ((cx_ok (E := [(25, 6)]) L0 ⟨⟨G1K.eqF, G1K.gdF⟩, trivial⟩ (by kernel_rfl)).eqs (EM := [(27, 12)]) ⟨⟨eqG, gdG⟩, trivial⟩).more TQ_ok
def LN : List (Fact Tryd.prog GlobD) := [⟨29, entI 29 XQ 9, .inline XQ_ok GlobD.keep Tryd.func29 rfl (by decide)⟩]
def TL : List (FuncId × Ent2) := [(18, entG [.p 12] Pre0 (o1 fun x b => PA (ptv K1 x b))), (16, entG [.p 12] Pre0 (o1 fun x b => PA (negP K1.F (ptv K1 x b)))), (20, entG [.p 12] Pre0 (o1 fun x b => .bl (onB K1 (K1.F.int 4) (ptv K1 x b)))), (14, entG [.p 12, .p 12] Pre0 (o2 fun x b y c => PA (addP K1.F (ptv K1 x b) (ptv K1 y c)))), (22, entG [.sl, .p 12] Pre0 (oM mulA)), (12, entG [] Pre0 (o0 BP)), (19, entG [.p 12] Pre0 (o1 fun x b => PA (ptv K1 x b))), (17, entG [.p 12] Pre0 (o1 fun x b => PA (negP K1.F (ptv K1 x b)))), (21, entG [.p 12] Pre0 (o1 fun x b => .bl (onB K1 (K1.F.int 4) (ptv K1 x b)))), (15, entG [.p 12, .p 12] Pre0 (o2 fun x b y c => PA (addP K1.F (ptv K1 x b) (ptv K1 y c)))), (23, entG [.sl, .p 12] Pre0 (oM mulA)), (13, entG [] Pre0 (o0 BP))]
theorem TL_ok : TOk2 Tryd.prog GlobD TL := ⟨.conG Tryd.func18 rfl (by decide) S12O.lReduce, .conG Tryd.func16 rfl (by decide) S12O.lNeg, .conG Tryd.func20 rfl (by decide) S12O.lOn, .conG Tryd.func14 rfl (by decide) S12O.lAdd, .conG Tryd.func22 rfl (by decide) S12O.lMul, .conG Tryd.func12 rfl (by decide) S12O.lBase, .conG Tryd.func19 rfl (by decide) qReduce, .conG Tryd.func17 rfl (by decide) qNeg, .conG Tryd.func21 rfl (by decide) qOn, .conG Tryd.func15 rfl (by decide) qAdd, .conG Tryd.func23 rfl (by decide) qMul, .conG Tryd.func13 rfl (by decide) qBase, trivial⟩
def XL : Cx := ((Cx.of [(25, 6)] (tb LN)).eqs [(27, 12)]).more TL
theorem XL_ok : CxOk Tryd.prog XL GlobD := ((cx_ok (E := [(25, 6)]) LN ⟨⟨G1K.eqF, G1K.gdF⟩, trivial⟩ (by kernel_rfl)).eqs (EM := [(27, 12)]) ⟨⟨eqG, gdG⟩, trivial⟩).more TL_ok
theorem aw1 : onB K1 (K1.F.int 4) (ptv K1 BL false) = true := by decide +kernel
theorem aw2 : onB K1 (K1.F.int 4) (ptv K1 [0, 0, 0, 0, 0, 0, 0, 0, 0, 0, 0, 0] false) = false := by decide +kernel
theorem num_2 : (num [2]).toNat = 2 := by decide +kernel
theorem aw4 : ptW K1 (addP K1.F (ptv K1 BL false) (ptv K1 (ptW K1 (negP K1.F (ptv K1 BL false))) (ptB (negP K1.F (ptv K1 BL false))))) = [0, 0, 0, 0, 0, 0, 0, 0, 0, 0, 0, 0] ∧ ptB (addP K1.F (ptv K1 BL false) (ptv K1 (ptW K1 (negP K1.F (ptv K1 BL false))) (ptB (negP K1.F (ptv K1 BL false))))) = true := by
  have h := out_eq K1 (add_eq' K1.F (eqP_refl K1.F (ptv K1 BL false)) (ptv_out K1 (negP K1.F (ptv K1 BL false))))
  rw [sum_opp] at h
  exact h
theorem aw5 : ptW K1 (addP K1.F (ptv K1 BL false) (ptv K1 BL false)) = ptW K1 (mulO K1 (K1.F.int 4) (num [2]).toNat (ptv K1 BL false)) ∧ ptB (addP K1.F (ptv K1 BL false) (ptv K1 BL false)) = ptB (mulO K1 (K1.F.int 4) (num [2]).toNat (ptv K1 BL false)) := by
  rw [mulO, if_pos aw1, num_2]
  exact ⟨rfl, rfl⟩
set_option maxRecDepth 100000 in
theorem awake : ConG Tryd.prog GlobD 11 [] Pre0 (o0 (.val (.bool true))) := con0 (fun n => trivial) (fun gs => rfl) (fun w hG => fn_outS (N := 9) XL_ok GlobD.keep Tryd.func11 [] (fun s hs => by cases hs) (noSS hG) (args := []) (q := [true, false, true, true, true, true, true]) (v := (.bl true)) (obs := [1 ≤ 10000, 1 ≤ 10000, onB K1 (K1.F.int 4) (ptv K1 BL false) = true, onB K1 (K1.F.int 4) (ptv K1 [0, 0, 0, 0, 0, 0, 0, 0, 0, 0, 0, 0] false) = false, onB K1 (K1.F.int 4) (ptv K1 [0, 0, 0, 0, 0, 0, 0, 0, 0, 0, 0, 0] true) = true, qb true (ptW K1 (addP K1.F (ptv K1 BL false) (ptv K1 (ptW K1 (negP K1.F (ptv K1 BL false))) (ptB (negP K1.F (ptv K1 BL false))))) = [0, 0, 0, 0, 0, 0, 0, 0, 0, 0, 0, 0] ∧ ptB (addP K1.F (ptv K1 BL false) (ptv K1 (ptW K1 (negP K1.F (ptv K1 BL false))) (ptB (negP K1.F (ptv K1 BL false))))) = true), qb true (ptW K1 (addP K1.F (ptv K1 BL false) (ptv K1 BL false)) = ptW K1 (mulO K1 (K1.F.int 4) (num [2]).toNat (ptv K1 BL false)) ∧ ptB (addP K1.F (ptv K1 BL false) (ptv K1 BL false)) = ptB (mulO K1 (K1.F.int 4) (num [2]).toNat (ptv K1 BL false))), qb true ((if onB K1 (K1.F.int 4) (ptv K1 BL false) = true then (0 : Int) else 120) = 0), qb true ((if onB K1 (K1.F.int 4) (ptv K1 [0, 0, 0, 0, 0, 0, 0, 0, 0, 0, 0, 0] false) = true then (0 : Int) else 120) = 120)]) 1 (by kernel_rfl) (hp (by decide) (hp (by decide) (hp (aw1) (hp (aw2) (hp (rfl) (hp (aw4) (hp (aw5) (hp (if_pos aw1) (hp (if_neg (by rw [aw2]; decide)) trivial))))))))) (fun v hv => by cases hv) rfl rfl)
def TA : List (FuncId × Ent2) := [(11, entG [] Pre0 (o0 (.val (.bool true)))), (18, entG [.p 12] Pre0 (o1 fun x b => PA (ptv K1 x b))), (16, entG [.p 12] Pre0 (o1 fun x b => PA (negP K1.F (ptv K1 x b)))), (20, entG [.p 12] Pre0 (o1 fun x b => .bl (onB K1 (K1.F.int 4) (ptv K1 x b)))), (14, entG [.p 12, .p 12] Pre0 (o2 fun x b y c => PA (addP K1.F (ptv K1 x b) (ptv K1 y c)))), (22, entG [.sl, .p 12] Pre0 (oM mulA)), (12, entG [] Pre0 (o0 BP)), (19, entG [.p 12] Pre0 (o1 fun x b => PA (ptv K1 x b))), (17, entG [.p 12] Pre0 (o1 fun x b => PA (negP K1.F (ptv K1 x b)))), (21, entG [.p 12] Pre0 (o1 fun x b => .bl (onB K1 (K1.F.int 4) (ptv K1 x b)))), (15, entG [.p 12, .p 12] Pre0 (o2 fun x b y c => PA (addP K1.F (ptv K1 x b) (ptv K1 y c)))), (23, entG [.sl, .p 12] Pre0 (oM mulA)), (13, entG [] Pre0 (o0 BP))]
theorem TA_ok : TOk2 Tryd.prog GlobD TA := ⟨.conG Tryd.func11 rfl (by decide) awake, .conG Tryd.func18 rfl (by decide) S12O.lReduce, .conG Tryd.func16 rfl (by decide) S12O.lNeg, .conG Tryd.func20 rfl (by decide) S12O.lOn, .conG Tryd.func14 rfl (by decide) S12O.lAdd, .conG Tryd.func22 rfl (by decide) S12O.lMul, .conG Tryd.func12 rfl (by decide) S12O.lBase, .conG Tryd.func19 rfl (by decide) qReduce, .conG Tryd.func17 rfl (by decide) qNeg, .conG Tryd.func21 rfl (by decide) qOn, .conG Tryd.func15 rfl (by decide) qAdd, .conG Tryd.func23 rfl (by decide) qMul, .conG Tryd.func13 rfl (by decide) qBase, trivial⟩
def XA : Cx := ((Cx.of [(25, 6)] (tb LN)).eqs [(27, 12)]).more TA
theorem XA_ok : CxOk Tryd.prog XA GlobD := ((cx_ok (E := [(25, 6)]) LN ⟨⟨G1K.eqF, G1K.gdF⟩, trivial⟩ (by kernel_rfl)).eqs (EM := [(27, 12)]) ⟨⟨eqG, gdG⟩, trivial⟩).more TA_ok
abbrev P_ (x : List Int) (b : Bool) : Pt Int := ptv K1 x b
def PtK (k : Int) (t : Bool) : Pt Int := if t = true then negP K1.F (ptv K1 (ptW K1 (mulO K1 (K1.F.int 4) (num [k]).toNat (ptv K1 BL false))) (ptB (mulO K1 (K1.F.int 4) (num [k]).toNat (ptv K1 BL false)))) else mulO K1 (K1.F.int 4) (num [k]).toNat (ptv K1 BL false)
abbrev PreK : List AA → List Ob
  | [.num k, .bl _] => [0 ≤ k ∧ k < 18446744073709551616]
  | _ => []
def oK (f : Int → Bool → AV) : List AA → AV
  | [.num k, .bl t] => f k t
  | _ => .unk
end Go.Proofs.YtgdimcnokagddaaDoor.S12L
