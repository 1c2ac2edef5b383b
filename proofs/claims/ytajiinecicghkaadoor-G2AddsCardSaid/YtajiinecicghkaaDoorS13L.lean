/-
  Own text. Statements of layer 13 by the reckoner.
-/
import Derived.Test.YtajiinecicghkaaDoorS13R
import Derived.Test.YtajiinecicghkaaDoorMPt
import Derived.Test.YtajiinecicghkaaDoorS13O
namespace Go.Proofs.YtajiinecicghkaaDoor.S13L
set_option linter.unusedVariables false
set_option linter.unusedSimpArgs false
open Go Go.RowKit Go.Proofs.YtajiinecicghkaaDoor.Reg Go.Proofs.YtajiinecicghkaaDoor.Base Go.Proofs.YtajiinecicghkaaDoor.Limb Go.Proofs.YtajiinecicghkaaDoor.Sx Go.Proofs.YtajiinecicghkaaDoor.Fp Go.Proofs.YtajiinecicghkaaDoor.Fp2 Go.Proofs.YtajiinecicghkaaDoor.Ec Go.Proofs.YtajiinecicghkaaDoor.Pts Go.Proofs.YtajiinecicghkaaDoor.G2K Go.Proofs.YtajiinecicghkaaDoor.S13R

def L0 : List (Fact Tryd.prog GlobD) := []
def TQ : List (FuncId × Ent2) := [(19, entG [.p 24] Pre0 (o1 fun x b => PA (ptv K2 x b))), (17, entG [.p 24] Pre0 (o1 fun x b => PA (negP K2.F (ptv K2 x b)))), (21, entG [.p 24] Pre0 (o1 fun x b => .bl (onB K2 bb (ptv K2 x b)))), (15, entG [.p 24, .p 24] Pre0 (o2 fun x b y c => PA (addP K2.F (ptv K2 x b) (ptv K2 y c)))), (23, entG [.sl, .p 24] Pre0 (oM mulA)), (13, entG [] Pre0 (o0 BP))]
theorem TQ_ok : TOk2 Tryd.prog GlobD TQ := ⟨.conG Tryd.func19 rfl (by decide) qReduce, .conG Tryd.func17 rfl (by decide) qNeg, .conG Tryd.func21 rfl (by decide) qOn, .conG Tryd.func15 rfl (by decide) qAdd, .conG Tryd.func23 rfl (by decide) qMul, .conG Tryd.func13 rfl (by decide) qBase, trivial⟩
def XQ : Cx := ((Cx.of [(27, 12)] (tb L0)).eqs [(29, 24)]).more TQ
theorem XQ_ok : CxOk Tryd.prog XQ GlobD := ((cx_ok (E := [(27, 12)]) L0 ⟨⟨G2K.eqF, G2K.gdF⟩, trivial⟩ (by kernel_rfl)).eqs (EM := [(29, 24)]) ⟨⟨eqG, gdG⟩, trivial⟩).more TQ_ok
def LN : List (Fact Tryd.prog GlobD) := [⟨29, entI 29 XQ 9, .inline XQ_ok GlobD.keep Tryd.func29 rfl (by decide)⟩]
def TL : List (FuncId × Ent2) := [(18, entG [.p 24] Pre0 (o1 fun x b => PA (ptv K2 x b))), (16, entG [.p 24] Pre0 (o1 fun x b => PA (negP K2.F (ptv K2 x b)))), (20, entG [.p 24] Pre0 (o1 fun x b => .bl (onB K2 bb (ptv K2 x b)))), (14, entG [.p 24, .p 24] Pre0 (o2 fun x b y c => PA (addP K2.F (ptv K2 x b) (ptv K2 y c)))), (22, entG [.sl, .p 24] Pre0 (oM mulA)), (12, entG [] Pre0 (o0 BP)), (19, entG [.p 24] Pre0 (o1 fun x b => PA (ptv K2 x b))), (17, entG [.p 24] Pre0 (o1 fun x b => PA (negP K2.F (ptv K2 x b)))), (21, entG [.p 24] Pre0 (o1 fun x b => .bl (onB K2 bb (ptv K2 x b)))), (15, entG [.p 24, .p 24] Pre0 (o2 fun x b y c => PA (addP K2.F (ptv K2 x b) (ptv K2 y c)))), (23, entG [.sl, .p 24] Pre0 (oM mulA)), (13, entG [] Pre0 (o0 BP))]
theorem TL_ok : TOk2 Tryd.prog GlobD TL := ⟨.conG Tryd.func18 rfl (by decide) S13O.lReduce, .conG Tryd.func16 rfl (by decide) S13O.lNeg, .conG Tryd.func20 rfl (by decide) S13O.lOn, .conG Tryd.func14 rfl (by decide) S13O.lAdd, .conG Tryd.func22 rfl (by decide) S13O.lMul, .conG Tryd.func12 rfl (by decide) S13O.lBase, .conG Tryd.func19 rfl (by decide) qReduce, .conG Tryd.func17 rfl (by decide) qNeg, .conG Tryd.func21 rfl (by decide) qOn, .conG Tryd.func15 rfl (by decide) qAdd, .conG Tryd.func23 rfl (by decide) qMul, .conG Tryd.func13 rfl (by decide) qBase, trivial⟩
def XL : Cx := ((Cx.of [(27, 12)] (tb LN)).eqs [(29, 24)]).more TL
theorem XL_ok : CxOk Tryd.prog XL GlobD := ((cx_ok (E := [(27, 12)]) LN ⟨⟨G2K.eqF, G2K.gdF⟩, trivial⟩ (by kernel_rfl)).eqs (EM := [(29, 24)]) ⟨⟨eqG, gdG⟩, trivial⟩).more TL_ok
theorem aw1 : onB K2 bb (ptv K2 BL false) = true := by decide +kernel
theorem aw2 : onB K2 bb (ptv K2 [0, 0, 0, 0, 0, 0, 0, 0, 0, 0, 0, 0, 0, 0, 0, 0, 0, 0, 0, 0, 0, 0, 0, 0] false) = false := by decide +kernel
theorem num_2 : (num [2]).toNat = 2 := by decide +kernel
theorem aw4 : ptW K2 (addP K2.F (ptv K2 BL false) (ptv K2 (ptW K2 (negP K2.F (ptv K2 BL false))) (ptB (negP K2.F (ptv K2 BL false))))) = [0, 0, 0, 0, 0, 0, 0, 0, 0, 0, 0, 0, 0, 0, 0, 0, 0, 0, 0, 0, 0, 0, 0, 0] ∧ ptB (addP K2.F (ptv K2 BL false) (ptv K2 (ptW K2 (negP K2.F (ptv K2 BL false))) (ptB (negP K2.F (ptv K2 BL false))))) = true := by
  have h := out_eq K2 (add_eq' K2.F (eqP_refl K2.F (ptv K2 BL false)) (ptv_out K2 (negP K2.F (ptv K2 BL false))))
  rw [sum_opp] at h
  exact h
theorem aw5 : ptW K2 (addP K2.F (ptv K2 BL false) (ptv K2 BL false)) = ptW K2 (mulO K2 bb (num [2]).toNat (ptv K2 BL false)) ∧ ptB (addP K2.F (ptv K2 BL false) (ptv K2 BL false)) = ptB (mulO K2 bb (num [2]).toNat (ptv K2 BL false)) := by
  rw [mulO, if_pos aw1, num_2]
  exact ⟨rfl, rfl⟩
set_option maxRecDepth 100000 in
theorem awake : ConG Tryd.prog GlobD 11 [] Pre0 (o0 (.val (.bool true))) := con0 (fun n => trivial) (fun gs => rfl) (fun w hG => fn_outS (N := 9) XL_ok GlobD.keep Tryd.func11 [] (fun s hs => by cases hs) (noSS hG) (args := []) (q := [true, false, true, true, true, true, true]) (v := (.bl true)) (obs := [1 ≤ 10000, 1 ≤ 10000, onB K2 bb (ptv K2 BL false) = true, onB K2 bb (ptv K2 [0, 0, 0, 0, 0, 0, 0, 0, 0, 0, 0, 0, 0, 0, 0, 0, 0, 0, 0, 0, 0, 0, 0, 0] false) = false, onB K2 bb (ptv K2 [0, 0, 0, 0, 0, 0, 0, 0, 0, 0, 0, 0, 0, 0, 0, 0, 0, 0, 0, 0, 0, 0, 0, 0] true) = true, qb true (ptW K2 (addP K2.F (ptv K2 BL false) (ptv K2 (ptW K2 (negP K2.F (ptv K2 BL false))) (ptB (negP K2.F (ptv K2 BL false))))) = [0, 0, 0, 0, 0, 0, 0, 0, 0, 0, 0, 0, 0, 0, 0, 0, 0, 0, 0, 0, 0, 0, 0, 0] ∧ ptB (addP K2.F (ptv K2 BL false) (ptv K2 (ptW K2 (negP K2.F (ptv K2 BL false))) (ptB (negP K2.F (ptv K2 BL false))))) = true), qb true (ptW K2 (addP K2.F (ptv K2 BL false) (ptv K2 BL false)) = ptW K2 (mulO K2 bb (num [2]).toNat (ptv K2 BL false)) ∧ ptB (addP K2.F (ptv K2 BL false) (ptv K2 BL false)) = ptB (mulO K2 bb (num [2]).toNat (ptv K2 BL false))), qb true ((if onB K2 bb (ptv K2 BL false) = true then (0 : Int) else 120) = 0), qb true ((if onB K2 bb (ptv K2 [0, 0, 0, 0, 0, 0, 0, 0, 0, 0, 0, 0, 0, 0, 0, 0, 0, 0, 0, 0, 0, 0, 0, 0] false) = true then (0 : Int) else 120) = 120)]) 1 (by kernel_rfl) (hp (by decide) (hp (by decide) (hp (aw1) (hp (aw2) (hp (rfl) (hp (aw4) (hp (aw5) (hp (if_pos aw1) (hp (if_neg (by rw [aw2]; decide)) trivial))))))))) (fun v hv => by cases hv) rfl rfl)
def TA : List (FuncId × Ent2) := [(11, entG [] Pre0 (o0 (.val (.bool true)))), (18, entG [.p 24] Pre0 (o1 fun x b => PA (ptv K2 x b))), (16, entG [.p 24] Pre0 (o1 fun x b => PA (negP K2.F (ptv K2 x b)))), (20, entG [.p 24] Pre0 (o1 fun x b => .bl (onB K2 bb (ptv K2 x b)))), (14, entG [.p 24, .p 24] Pre0 (o2 fun x b y c => PA (addP K2.F (ptv K2 x b) (ptv K2 y c)))), (22, entG [.sl, .p 24] Pre0 (oM mulA)), (12, entG [] Pre0 (o0 BP)), (19, entG [.p 24] Pre0 (o1 fun x b => PA (ptv K2 x b))), (17, entG [.p 24] Pre0 (o1 fun x b => PA (negP K2.F (ptv K2 x b)))), (21, entG [.p 24] Pre0 (o1 fun x b => .bl (onB K2 bb (ptv K2 x b)))), (15, entG [.p 24, .p 24] Pre0 (o2 fun x b y c => PA (addP K2.F (ptv K2 x b) (ptv K2 y c)))), (23, entG [.sl, .p 24] Pre0 (oM mulA)), (13, entG [] Pre0 (o0 BP))]
theorem TA_ok : TOk2 Tryd.prog GlobD TA := ⟨.conG Tryd.func11 rfl (by decide) awake, .conG Tryd.func18 rfl (by decide) S13O.lReduce, .conG Tryd.func16 rfl (by decide) S13O.lNeg, .conG Tryd.func20 rfl (by decide) S13O.lOn, .conG Tryd.func14 rfl (by decide) S13O.lAdd, .conG Tryd.func22 rfl (by decide) S13O.lMul, .conG Tryd.func12 rfl (by decide) S13O.lBase, .conG Tryd.func19 rfl (by decide) qReduce, .conG Tryd.func17 rfl (by decide) qNeg, .conG Tryd.func21 rfl (by decide) qOn, .conG Tryd.func15 rfl (by decide) qAdd, .conG Tryd.func23 rfl (by decide) qMul, .conG Tryd.func13 rfl (by decide) qBase, trivial⟩
def XA : Cx := ((Cx.of [(27, 12)] (tb LN)).eqs [(29, 24)]).more TA
theorem XA_ok : CxOk Tryd.prog XA GlobD := ((cx_ok (E := [(27, 12)]) LN ⟨⟨G2K.eqF, G2K.gdF⟩, trivial⟩ (by kernel_rfl)).eqs (EM := [(29, 24)]) ⟨⟨eqG, gdG⟩, trivial⟩).more TA_ok
abbrev P_ (x : List Int) (b : Bool) : Pt Fp2.G := ptv K2 x b
set_option maxRecDepth 100000 in
theorem names (w : World) (hG : GlobD w) : Calls Tryd.prog 3 #[] w fun e w' => e = .returned (.bool true) ∧ RowKit.Below w.heap.size w w' :=
  fn_outS (N := 9) XA_ok GlobD.keep Tryd.func3 [] (fun s hs => by cases hs) (noSS hG) (args := []) (q := [true]) (v := (.bl true)) (obs := [qb true (BL = BL ∧ false = false)]) 1 (by kernel_rfl) (hp (⟨rfl, rfl⟩) trivial) (fun v hv => by cases hv) rfl rfl
set_option maxRecDepth 100000 in
theorem adds (x : List Int) (hx : Nm 24 x) (b : Bool) (y : List Int) (hy : Nm 24 y) (c : Bool) (w : World) (hG : GlobD w) : Calls Tryd.prog 4 #[.agg (vals .u64 x ++ #[.bool b]), .agg (vals .u64 y ++ #[.bool c])] w fun e w' => e = .returned (.bool true) ∧ RowKit.Below w.heap.size w w' := by
  cases e : onB K2 bb (ptv K2 x b)
  · exact fn_outS (N := 9) XA_ok GlobD.keep Tryd.func4 [] (fun s hs => by cases hs) (noSS hG) (args := [.agg [.nums 24 x, .nm (.bl b)], .agg [.nums 24 y, .nm (.bl c)]]) (q := [true, true, true, true, false, false]) (v := (.bl true)) (obs := [qb true (ptW K2 (addP K2.F (ptv K2 x b) (ptv K2 y c)) = ptW K2 (addP K2.F (ptv K2 x b) (ptv K2 y c)) ∧ ptB (addP K2.F (ptv K2 x b) (ptv K2 y c)) = ptB (addP K2.F (ptv K2 x b) (ptv K2 y c))), qb true (ptW K2 (addP K2.F (ptv K2 x b) (ptv K2 x b)) = ptW K2 (addP K2.F (ptv K2 x b) (ptv K2 x b)) ∧ ptB (addP K2.F (ptv K2 x b) (ptv K2 x b)) = ptB (addP K2.F (ptv K2 x b) (ptv K2 x b))), qb true (ptW K2 (negP K2.F (ptv K2 x b)) = ptW K2 (negP K2.F (ptv K2 x b)) ∧ ptB (negP K2.F (ptv K2 x b)) = ptB (negP K2.F (ptv K2 x b))), qb true (ptW K2 (ptv K2 x b) = ptW K2 (ptv K2 x b) ∧ ptB (ptv K2 x b) = ptB (ptv K2 x b)), onB K2 bb (ptv K2 x b) = false, onB K2 bb (ptv K2 x b) = false]) 1 (by kernel_rfl) (hp (⟨rfl, rfl⟩) (hp (⟨rfl, rfl⟩) (hp (⟨rfl, rfl⟩) (hp (⟨rfl, rfl⟩) (hp (e) (hp (e) trivial)))))) (fun v hv => by
      simp only [List.mem_cons, List.not_mem_nil, or_false] at hv
      rcases hv with rfl | rfl
      · exact ⟨hx, trivial, trivial⟩
      · exact ⟨hy, trivial, trivial⟩) rfl (by simp only [List.map_cons, List.map_nil, p_den])
  · exact fn_outS (N := 9) XA_ok GlobD.keep Tryd.func4 [] (fun s hs => by cases hs) (noSS hG) (args := [.agg [.nums 24 x, .nm (.bl b)], .agg [.nums 24 y, .nm (.bl c)]]) (q := [true, true, true, true, true, true]) (v := (.bl true)) (obs := [qb true (ptW K2 (addP K2.F (ptv K2 x b) (ptv K2 y c)) = ptW K2 (addP K2.F (ptv K2 x b) (ptv K2 y c)) ∧ ptB (addP K2.F (ptv K2 x b) (ptv K2 y c)) = ptB (addP K2.F (ptv K2 x b) (ptv K2 y c))), qb true (ptW K2 (addP K2.F (ptv K2 x b) (ptv K2 x b)) = ptW K2 (addP K2.F (ptv K2 x b) (ptv K2 x b)) ∧ ptB (addP K2.F (ptv K2 x b) (ptv K2 x b)) = ptB (addP K2.F (ptv K2 x b) (ptv K2 x b))), qb true (ptW K2 (negP K2.F (ptv K2 x b)) = ptW K2 (negP K2.F (ptv K2 x b)) ∧ ptB (negP K2.F (ptv K2 x b)) = ptB (negP K2.F (ptv K2 x b))), qb true (ptW K2 (ptv K2 x b) = ptW K2 (ptv K2 x b) ∧ ptB (ptv K2 x b) = ptB (ptv K2 x b)), onB K2 bb (ptv K2 x b) = true, onB K2 bb (ptv K2 x b) = true]) 1 (by kernel_rfl) (hp (⟨rfl, rfl⟩) (hp (⟨rfl, rfl⟩) (hp (⟨rfl, rfl⟩) (hp (⟨rfl, rfl⟩) (hp (e) (hp (e) trivial)))))) (fun v hv => by
      simp only [List.mem_cons, List.not_mem_nil, or_false] at hv
      rcases hv with rfl | rfl
      · exact ⟨hx, trivial, trivial⟩
      · exact ⟨hy, trivial, trivial⟩) rfl (by simp only [List.map_cons, List.map_nil, p_den])
set_option maxRecDepth 100000 in
theorem undoes (x : List Int) (hx : Nm 24 x) (b : Bool) (y : List Int) (hy : Nm 24 y) (c : Bool) (w : World) (hG : GlobD w) : Calls Tryd.prog 10 #[.agg (vals .u64 x ++ #[.bool b]), .agg (vals .u64 y ++ #[.bool c])] w fun e w' => e = .returned (.bool true) ∧ RowKit.Below w.heap.size w w' := by
  have u1 : ptW K2 (addP K2.F (ptv K2 x b) (ptv K2 (ptW K2 (negP K2.F (ptv K2 x b))) (ptB (negP K2.F (ptv K2 x b))))) = [0, 0, 0, 0, 0, 0, 0, 0, 0, 0, 0, 0, 0, 0, 0, 0, 0, 0, 0, 0, 0, 0, 0, 0] ∧ ptB (addP K2.F (ptv K2 x b) (ptv K2 (ptW K2 (negP K2.F (ptv K2 x b))) (ptB (negP K2.F (ptv K2 x b))))) = true := by
    have h := out_eq K2 (add_eq' K2.F (eqP_refl K2.F (ptv K2 x b)) (ptv_out K2 (negP K2.F (ptv K2 x b))))
    rw [sum_opp] at h
    exact h
  have u2 : Sm K2 (addP K2.F (ptv K2 x b) (ptv K2 [0, 0, 0, 0, 0, 0, 0, 0, 0, 0, 0, 0, 0, 0, 0, 0, 0, 0, 0, 0, 0, 0, 0, 0] true)) (ptv K2 x b) := by rw [ptv_t, add_none]; exact ⟨rfl, rfl⟩
  have u3 : Sm K2 (addP K2.F (ptv K2 [0, 0, 0, 0, 0, 0, 0, 0, 0, 0, 0, 0, 0, 0, 0, 0, 0, 0, 0, 0, 0, 0, 0, 0] true) (ptv K2 x b)) (ptv K2 x b) := by rw [ptv_t]; exact ⟨rfl, rfl⟩
  have u4 : Sm K2 (negP K2.F (ptv K2 (ptW K2 (negP K2.F (ptv K2 x b))) (ptB (negP K2.F (ptv K2 x b))))) (ptv K2 x b) := sm K2 (eqP_trans K2.F (neg_v K2 _) (neg_neg K2 _))
  cases e : onB K2 bb (ptv K2 x b)
  · exact fn_outS (N := 9) XA_ok GlobD.keep Tryd.func10 [] (fun s hs => by cases hs) (noSS hG) (args := [.agg [.nums 24 x, .nm (.bl b)], .agg [.nums 24 y, .nm (.bl c)]]) (q := [true, true, true, true, false]) (v := (.bl true)) (obs := [qb true (ptW K2 (addP K2.F (ptv K2 x b) (ptv K2 (ptW K2 (negP K2.F (ptv K2 x b))) (ptB (negP K2.F (ptv K2 x b))))) = [0, 0, 0, 0, 0, 0, 0, 0, 0, 0, 0, 0, 0, 0, 0, 0, 0, 0, 0, 0, 0, 0, 0, 0] ∧ ptB (addP K2.F (ptv K2 x b) (ptv K2 (ptW K2 (negP K2.F (ptv K2 x b))) (ptB (negP K2.F (ptv K2 x b))))) = true), qb true (ptW K2 (addP K2.F (ptv K2 x b) (ptv K2 [0, 0, 0, 0, 0, 0, 0, 0, 0, 0, 0, 0, 0, 0, 0, 0, 0, 0, 0, 0, 0, 0, 0, 0] true)) = ptW K2 (ptv K2 x b) ∧ ptB (addP K2.F (ptv K2 x b) (ptv K2 [0, 0, 0, 0, 0, 0, 0, 0, 0, 0, 0, 0, 0, 0, 0, 0, 0, 0, 0, 0, 0, 0, 0, 0] true)) = ptB (ptv K2 x b)), qb true (ptW K2 (addP K2.F (ptv K2 [0, 0, 0, 0, 0, 0, 0, 0, 0, 0, 0, 0, 0, 0, 0, 0, 0, 0, 0, 0, 0, 0, 0, 0] true) (ptv K2 x b)) = ptW K2 (ptv K2 x b) ∧ ptB (addP K2.F (ptv K2 [0, 0, 0, 0, 0, 0, 0, 0, 0, 0, 0, 0, 0, 0, 0, 0, 0, 0, 0, 0, 0, 0, 0, 0] true) (ptv K2 x b)) = ptB (ptv K2 x b)), qb true (ptW K2 (negP K2.F (ptv K2 (ptW K2 (negP K2.F (ptv K2 x b))) (ptB (negP K2.F (ptv K2 x b))))) = ptW K2 (ptv K2 x b) ∧ ptB (negP K2.F (ptv K2 (ptW K2 (negP K2.F (ptv K2 x b))) (ptB (negP K2.F (ptv K2 x b))))) = ptB (ptv K2 x b)), onB K2 bb (ptv K2 x b) = false]) 1 (by kernel_rfl) (hp (u1) (hp (u2) (hp (u3) (hp (u4) (hp (e) trivial))))) (fun v hv => by
      simp only [List.mem_cons, List.not_mem_nil, or_false] at hv
      rcases hv with rfl | rfl
      · exact ⟨hx, trivial, trivial⟩
      · exact ⟨hy, trivial, trivial⟩) rfl (by simp only [List.map_cons, List.map_nil, p_den])
  · cases e2 : onB K2 bb (ptv K2 y c)
    · exact fn_outS (N := 9) XA_ok GlobD.keep Tryd.func10 [] (fun s hs => by cases hs) (noSS hG) (args := [.agg [.nums 24 x, .nm (.bl b)], .agg [.nums 24 y, .nm (.bl c)]]) (q := [true, true, true, true, true, false]) (v := (.bl true)) (obs := [qb true (ptW K2 (addP K2.F (ptv K2 x b) (ptv K2 (ptW K2 (negP K2.F (ptv K2 x b))) (ptB (negP K2.F (ptv K2 x b))))) = [0, 0, 0, 0, 0, 0, 0, 0, 0, 0, 0, 0, 0, 0, 0, 0, 0, 0, 0, 0, 0, 0, 0, 0] ∧ ptB (addP K2.F (ptv K2 x b) (ptv K2 (ptW K2 (negP K2.F (ptv K2 x b))) (ptB (negP K2.F (ptv K2 x b))))) = true), qb true (ptW K2 (addP K2.F (ptv K2 x b) (ptv K2 [0, 0, 0, 0, 0, 0, 0, 0, 0, 0, 0, 0, 0, 0, 0, 0, 0, 0, 0, 0, 0, 0, 0, 0] true)) = ptW K2 (ptv K2 x b) ∧ ptB (addP K2.F (ptv K2 x b) (ptv K2 [0, 0, 0, 0, 0, 0, 0, 0, 0, 0, 0, 0, 0, 0, 0, 0, 0, 0, 0, 0, 0, 0, 0, 0] true)) = ptB (ptv K2 x b)), qb true (ptW K2 (addP K2.F (ptv K2 [0, 0, 0, 0, 0, 0, 0, 0, 0, 0, 0, 0, 0, 0, 0, 0, 0, 0, 0, 0, 0, 0, 0, 0] true) (ptv K2 x b)) = ptW K2 (ptv K2 x b) ∧ ptB (addP K2.F (ptv K2 [0, 0, 0, 0, 0, 0, 0, 0, 0, 0, 0, 0, 0, 0, 0, 0, 0, 0, 0, 0, 0, 0, 0, 0] true) (ptv K2 x b)) = ptB (ptv K2 x b)), qb true (ptW K2 (negP K2.F (ptv K2 (ptW K2 (negP K2.F (ptv K2 x b))) (ptB (negP K2.F (ptv K2 x b))))) = ptW K2 (ptv K2 x b) ∧ ptB (negP K2.F (ptv K2 (ptW K2 (negP K2.F (ptv K2 x b))) (ptB (negP K2.F (ptv K2 x b))))) = ptB (ptv K2 x b)), onB K2 bb (ptv K2 x b) = true, onB K2 bb (ptv K2 y c) = false]) 1 (by kernel_rfl) (hp (u1) (hp (u2) (hp (u3) (hp (u4) (hp (e) (hp (e2) trivial)))))) (fun v hv => by
      simp only [List.mem_cons, List.not_mem_nil, or_false] at hv
      rcases hv with rfl | rfl
      · exact ⟨hx, trivial, trivial⟩
      · exact ⟨hy, trivial, trivial⟩) rfl (by simp only [List.map_cons, List.map_nil, p_den])
    · have u5 : Sm K2 (addP K2.F (ptv K2 (ptW K2 (addP K2.F (ptv K2 x b) (ptv K2 y c))) (ptB (addP K2.F (ptv K2 x b) (ptv K2 y c)))) (ptv K2 (ptW K2 (negP K2.F (ptv K2 y c))) (ptB (negP K2.F (ptv K2 y c))))) (ptv K2 x b) := sm K2 (eqP_trans K2.F (add_v K2 (eqP_refl K2.F _) (eqP_refl K2.F _)) (back_ K2 four_ne ((onB_iff K2).1 e) ((onB_iff K2).1 e2)))
      exact fn_outS (N := 9) XA_ok GlobD.keep Tryd.func10 [] (fun s hs => by cases hs) (noSS hG) (args := [.agg [.nums 24 x, .nm (.bl b)], .agg [.nums 24 y, .nm (.bl c)]]) (q := [true, true, true, true, true, true, true]) (v := (.bl true)) (obs := [qb true (ptW K2 (addP K2.F (ptv K2 x b) (ptv K2 (ptW K2 (negP K2.F (ptv K2 x b))) (ptB (negP K2.F (ptv K2 x b))))) = [0, 0, 0, 0, 0, 0, 0, 0, 0, 0, 0, 0, 0, 0, 0, 0, 0, 0, 0, 0, 0, 0, 0, 0] ∧ ptB (addP K2.F (ptv K2 x b) (ptv K2 (ptW K2 (negP K2.F (ptv K2 x b))) (ptB (negP K2.F (ptv K2 x b))))) = true), qb true (ptW K2 (addP K2.F (ptv K2 x b) (ptv K2 [0, 0, 0, 0, 0, 0, 0, 0, 0, 0, 0, 0, 0, 0, 0, 0, 0, 0, 0, 0, 0, 0, 0, 0] true)) = ptW K2 (ptv K2 x b) ∧ ptB (addP K2.F (ptv K2 x b) (ptv K2 [0, 0, 0, 0, 0, 0, 0, 0, 0, 0, 0, 0, 0, 0, 0, 0, 0, 0, 0, 0, 0, 0, 0, 0] true)) = ptB (ptv K2 x b)), qb true (ptW K2 (addP K2.F (ptv K2 [0, 0, 0, 0, 0, 0, 0, 0, 0, 0, 0, 0, 0, 0, 0, 0, 0, 0, 0, 0, 0, 0, 0, 0] true) (ptv K2 x b)) = ptW K2 (ptv K2 x b) ∧ ptB (addP K2.F (ptv K2 [0, 0, 0, 0, 0, 0, 0, 0, 0, 0, 0, 0, 0, 0, 0, 0, 0, 0, 0, 0, 0, 0, 0, 0] true) (ptv K2 x b)) = ptB (ptv K2 x b)), qb true (ptW K2 (negP K2.F (ptv K2 (ptW K2 (negP K2.F (ptv K2 x b))) (ptB (negP K2.F (ptv K2 x b))))) = ptW K2 (ptv K2 x b) ∧ ptB (negP K2.F (ptv K2 (ptW K2 (negP K2.F (ptv K2 x b))) (ptB (negP K2.F (ptv K2 x b))))) = ptB (ptv K2 x b)), onB K2 bb (ptv K2 x b) = true, onB K2 bb (ptv K2 y c) = true, qb true (ptW K2 (addP K2.F (ptv K2 (ptW K2 (addP K2.F (ptv K2 x b) (ptv K2 y c))) (ptB (addP K2.F (ptv K2 x b) (ptv K2 y c)))) (ptv K2 (ptW K2 (negP K2.F (ptv K2 y c))) (ptB (negP K2.F (ptv K2 y c))))) = ptW K2 (ptv K2 x b) ∧ ptB (addP K2.F (ptv K2 (ptW K2 (addP K2.F (ptv K2 x b) (ptv K2 y c))) (ptB (addP K2.F (ptv K2 x b) (ptv K2 y c)))) (ptv K2 (ptW K2 (negP K2.F (ptv K2 y c))) (ptB (negP K2.F (ptv K2 y c))))) = ptB (ptv K2 x b))]) 1 (by kernel_rfl) (hp (u1) (hp (u2) (hp (u3) (hp (u4) (hp (e) (hp (e2) (hp (u5) trivial))))))) (fun v hv => by
      simp only [List.mem_cons, List.not_mem_nil, or_false] at hv
      rcases hv with rfl | rfl
      · exact ⟨hx, trivial, trivial⟩
      · exact ⟨hy, trivial, trivial⟩) rfl (by simp only [List.map_cons, List.map_nil, p_den])
set_option maxRecDepth 100000 in
theorem muls (A : Option Addr) (n c : Nat) (l : List Int) (B : Nat) (x : List Int) (hx : Nm 24 x) (b : Bool) (hw : Words l) (w : World) (hG : GlobD w) (hr : Rd w B A n .u64 l) (hB : B ≤ w.heap.size) : Calls Tryd.prog 5 #[.slice A n c, .agg (vals .u64 x ++ #[.bool b])] w fun e w' => e = .returned (.bool true) ∧ RowKit.Below w.heap.size w w' := by
  by_cases h : (3 : Int) < n
  · exact fn_outS (N := 9) XA_ok GlobD.keep Tryd.func5 [(A, n, l, B)] (fun s hs => by obtain rfl := List.mem_singleton.1 hs; exact hw) ⟨hG, fun s hs => by obtain rfl := List.mem_singleton.1 hs; exact ⟨hB, hr⟩⟩ (args := [.ext A n c l, .agg [.nums 24 x, .nm (.bl b)]]) (q := [true]) (v := (.bl true)) (obs := [qb true ((3 : Int) < n)]) 1 (by kernel_rfl) (hp (h) trivial) (fun v hv => by
      simp only [List.mem_cons, List.not_mem_nil, or_false] at hv
      rcases hv with rfl | rfl
      · trivial
      · exact ⟨hx, trivial, trivial⟩) rfl (by simp only [List.map_cons, List.map_nil, p_den]; rfl)
  · exact fn_outS (N := 9) XA_ok GlobD.keep Tryd.func5 [(A, n, l, B)] (fun s hs => by obtain rfl := List.mem_singleton.1 hs; exact hw) ⟨hG, fun s hs => by obtain rfl := List.mem_singleton.1 hs; exact ⟨hB, hr⟩⟩ (args := [.ext A n c l, .agg [.nums 24 x, .nm (.bl b)]]) (q := [false, true, true]) (v := (.bl true)) (obs := [qb false ((3 : Int) < n), DS [(A, n, l, B)] A n l, n ≤ 10000, DS [(A, n, l, B)] A n l, n ≤ 10000, qb true (ptW K2 (mulO K2 bb (num l).toNat (ptv K2 x b)) = ptW K2 (mulO K2 bb (num l).toNat (ptv K2 x b)) ∧ ptB (mulO K2 bb (num l).toNat (ptv K2 x b)) = ptB (mulO K2 bb (num l).toNat (ptv K2 x b))), qb true ((if onB K2 bb (ptv K2 x b) = true then (0 : Int) else 120) = (if onB K2 bb (ptv K2 x b) = true then (0 : Int) else 120))]) 1 (by kernel_rfl) (hp (h) (hp (⟨B, by simp⟩) (hp ((by omega)) (hp (⟨B, by simp⟩) (hp ((by omega)) (hp (⟨rfl, rfl⟩) (hp (rfl) trivial))))))) (fun v hv => by
      simp only [List.mem_cons, List.not_mem_nil, or_false] at hv
      rcases hv with rfl | rfl
      · trivial
      · exact ⟨hx, trivial, trivial⟩) rfl (by simp only [List.map_cons, List.map_nil, p_den]; rfl)
set_option maxRecDepth 100000 in
theorem closed (x : List Int) (hx : Nm 24 x) (b : Bool) (y : List Int) (hy : Nm 24 y) (c : Bool) (k : Int) (hk : 0 ≤ k ∧ k < 18446744073709551616) (w : World) (hG : GlobD w) : Calls Tryd.prog 7 #[.agg (vals .u64 x ++ #[.bool b]), .agg (vals .u64 y ++ #[.bool c]), .int .u64 k] w fun e w' => e = .returned (.bool true) ∧ RowKit.Below w.heap.size w w' := by
  cases e : onB K2 bb (ptv K2 x b)
  · exact fn_outS (N := 9) XA_ok GlobD.keep Tryd.func7 [] (fun s hs => by cases hs) (noSS hG) (args := [.agg [.nums 24 x, .nm (.bl b)], .agg [.nums 24 y, .nm (.bl c)], .num .u64 k]) (q := [false]) (v := (.bl true)) (obs := [onB K2 bb (ptv K2 x b) = false]) 1 (by kernel_rfl) (hp (e) trivial) (fun v hv => by
      simp only [List.mem_cons, List.not_mem_nil, or_false] at hv
      rcases hv with rfl | rfl | rfl
      · exact ⟨hx, trivial, trivial⟩
      · exact ⟨hy, trivial, trivial⟩
      · exact hk) rfl (by simp only [List.map_cons, List.map_nil, p_den]; rfl)
  · cases e2 : onB K2 bb (ptv K2 y c)
    · exact fn_outS (N := 9) XA_ok GlobD.keep Tryd.func7 [] (fun s hs => by cases hs) (noSS hG) (args := [.agg [.nums 24 x, .nm (.bl b)], .agg [.nums 24 y, .nm (.bl c)], .num .u64 k]) (q := [true, false]) (v := (.bl true)) (obs := [onB K2 bb (ptv K2 x b) = true, onB K2 bb (ptv K2 y c) = false]) 1 (by kernel_rfl) (hp (e) (hp (e2) trivial)) (fun v hv => by
      simp only [List.mem_cons, List.not_mem_nil, or_false] at hv
      rcases hv with rfl | rfl | rfl
      · exact ⟨hx, trivial, trivial⟩
      · exact ⟨hy, trivial, trivial⟩
      · exact hk) rfl (by simp only [List.map_cons, List.map_nil, p_den]; rfl)
    · have o1 := (onB_iff K2).1 e
      have o2 := (onB_iff K2).1 e2
      have v1 : onB K2 bb (ptv K2 (ptW K2 (addP K2.F (ptv K2 x b) (ptv K2 y c))) (ptB (addP K2.F (ptv K2 x b) (ptv K2 y c)))) = true := (on_v K2 _).trans ((onB_iff K2).2 (add_on K2.F o1 o2))
      have v2 : onB K2 bb (ptv K2 (ptW K2 (mulO K2 bb (num [k]).toNat (ptv K2 x b))) (ptB (mulO K2 bb (num [k]).toNat (ptv K2 x b)))) = true := (on_v K2 _).trans ((onB_iff K2).2 (by rw [mulO_on K2 o1]; exact mul_on K2 o1 _))
      have v3 : onB K2 bb (ptv K2 (ptW K2 (negP K2.F (ptv K2 x b))) (ptB (negP K2.F (ptv K2 x b)))) = true := (on_v K2 _).trans ((onB_iff K2).2 (onP_neg K2.F o1))
      exact fn_outS (N := 9) XA_ok GlobD.keep Tryd.func7 [] (fun s hs => by cases hs) (noSS hG) (args := [.agg [.nums 24 x, .nm (.bl b)], .agg [.nums 24 y, .nm (.bl c)], .num .u64 k]) (q := [true, true, true, true, true, true, true, true, true]) (v := (.bl true)) (obs := [onB K2 bb (ptv K2 x b) = true, onB K2 bb (ptv K2 y c) = true, 1 ≤ 10000, onB K2 bb (ptv K2 (ptW K2 (addP K2.F (ptv K2 x b) (ptv K2 y c))) (ptB (addP K2.F (ptv K2 x b) (ptv K2 y c)))) = true, onB K2 bb (ptv K2 (ptW K2 (mulO K2 bb (num [k]).toNat (ptv K2 x b))) (ptB (mulO K2 bb (num [k]).toNat (ptv K2 x b)))) = true, onB K2 bb (ptv K2 (ptW K2 (negP K2.F (ptv K2 x b))) (ptB (negP K2.F (ptv K2 x b)))) = true, qb true ((if onB K2 bb (ptv K2 x b) = true then (0 : Int) else 120) = 0), qb true (ptW K2 (addP K2.F (ptv K2 x b) (ptv K2 y c)) = ptW K2 (addP K2.F (ptv K2 y c) (ptv K2 x b)) ∧ ptB (addP K2.F (ptv K2 x b) (ptv K2 y c)) = ptB (addP K2.F (ptv K2 y c) (ptv K2 x b))), qb true (ptW K2 (ptv K2 (ptW K2 (addP K2.F (ptv K2 x b) (ptv K2 y c))) (ptB (addP K2.F (ptv K2 x b) (ptv K2 y c)))) = ptW K2 (addP K2.F (ptv K2 x b) (ptv K2 y c)) ∧ ptB (ptv K2 (ptW K2 (addP K2.F (ptv K2 x b) (ptv K2 y c))) (ptB (addP K2.F (ptv K2 x b) (ptv K2 y c)))) = ptB (addP K2.F (ptv K2 x b) (ptv K2 y c))), qb true (ptW K2 (ptv K2 (ptW K2 (mulO K2 bb (num [k]).toNat (ptv K2 x b))) (ptB (mulO K2 bb (num [k]).toNat (ptv K2 x b)))) = ptW K2 (mulO K2 bb (num [k]).toNat (ptv K2 x b)) ∧ ptB (ptv K2 (ptW K2 (mulO K2 bb (num [k]).toNat (ptv K2 x b))) (ptB (mulO K2 bb (num [k]).toNat (ptv K2 x b)))) = ptB (mulO K2 bb (num [k]).toNat (ptv K2 x b)))]) 1 (by kernel_rfl) (hp (e) (hp (e2) (hp (by decide) (hp (v1) (hp (v2) (hp (v3) (hp (if_pos e) (hp (sm K2 (comm_ K2 o1 o2)) (hp (sm K2 (ptv_out K2 _)) (hp (sm K2 (ptv_out K2 _)) trivial)))))))))) (fun v hv => by
      simp only [List.mem_cons, List.not_mem_nil, or_false] at hv
      rcases hv with rfl | rfl | rfl
      · exact ⟨hx, trivial, trivial⟩
      · exact ⟨hy, trivial, trivial⟩
      · exact hk) rfl (by simp only [List.map_cons, List.map_nil, p_den]; rfl)
def PtK (k : Int) (t : Bool) : Pt Fp2.G := if t = true then negP K2.F (ptv K2 (ptW K2 (mulO K2 bb (num [k]).toNat (ptv K2 BL false))) (ptB (mulO K2 bb (num [k]).toNat (ptv K2 BL false)))) else mulO K2 bb (num [k]).toNat (ptv K2 BL false)
abbrev PreK : List AA → List Ob
  | [.num k, .bl _] => [0 ≤ k ∧ k < 18446744073709551616]
  | _ => []
def oK (f : Int → Bool → AV) : List AA → AV
  | [.num k, .bl t] => f k t
  | _ => .unk
set_option maxRecDepth 100000 in
theorem point_c (k : Int) (hk : 0 ≤ k ∧ k < 18446744073709551616) (t : Bool) (w : World) (hG : GlobD w) : Calls Tryd.prog 26 #[.int .u64 k, .bool t] w fun e w' => e = .returned (.agg (vals .u64 (ptW K2 (PtK k t)) ++ #[.bool (ptB (PtK k t))])) ∧ RowKit.Below w.heap.size w w' := by
  rw [← pa_den (PtK k t) []]
  cases t
  · exact fn_outS (N := 9) XA_ok GlobD.keep Tryd.func26 [] (fun s hs => by cases hs) (noSS hG) (args := [.num .u64 k, .val (.bool false)]) (q := []) (v := (PA (mulO K2 bb (num [k]).toNat (ptv K2 BL false)))) (obs := [1 ≤ 10000]) 1 (by kernel_rfl) (hp (by decide) trivial) (fun v hv => by
      simp only [List.mem_cons, List.not_mem_nil, or_false] at hv
      rcases hv with rfl | rfl
      · exact hk
      · trivial) rfl rfl
  · exact fn_outS (N := 9) XA_ok GlobD.keep Tryd.func26 [] (fun s hs => by cases hs) (noSS hG) (args := [.num .u64 k, .val (.bool true)]) (q := []) (v := (PA (negP K2.F (ptv K2 (ptW K2 (mulO K2 bb (num [k]).toNat (ptv K2 BL false))) (ptB (mulO K2 bb (num [k]).toNat (ptv K2 BL false))))))) (obs := [1 ≤ 10000]) 1 (by kernel_rfl) (hp (by decide) trivial) (fun v hv => by
      simp only [List.mem_cons, List.not_mem_nil, or_false] at hv
      rcases hv with rfl | rfl
      · exact hk
      · trivial) rfl rfl
end Go.Proofs.YtajiinecicghkaaDoor.S13L
