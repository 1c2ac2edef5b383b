/-
  Own text. Layer 13 by the reckoner: the landed Sum.
-/
import Derived.Test.YtajiinecicghkaaDoorS13S
import Derived.Test.YtajiinecicghkaaDoorS13O
namespace Go.Proofs.YtajiinecicghkaaDoor.S13P
set_option linter.unusedVariables false
set_option linter.unusedSimpArgs false
open Go Go.RowKit Go.Proofs.YtajiinecicghkaaDoor.Reg Go.Proofs.YtajiinecicghkaaDoor.Base Go.Proofs.YtajiinecicghkaaDoor.Limb Go.Proofs.YtajiinecicghkaaDoor.Sx Go.Proofs.YtajiinecicghkaaDoor.Fp Go.Proofs.YtajiinecicghkaaDoor.Fp2 Go.Proofs.YtajiinecicghkaaDoor.Ec Go.Proofs.YtajiinecicghkaaDoor.Pts Go.Proofs.YtajiinecicghkaaDoor.G2K Go.Proofs.YtajiinecicghkaaDoor.S13R Go.Proofs.YtajiinecicghkaaDoor.S13S

def T7 : List (FuncId × Ent2) := [(22, entG [.sl, .p 24] Pre0 (oM mulA)), (14, entG [.p 24, .p 24] Pre0 (o2 fun x b y c => PA (addP K2.F (ptv K2 x b) (ptv K2 y c))))]
theorem T7_ok : TOk2 Tryd.prog GlobD T7 := ⟨.conG Tryd.func22 rfl (by decide) S13O.lMul, .conG Tryd.func14 rfl (by decide) S13O.lAdd, trivial⟩
def X7 : Cx := ((Cx.of [(27, 12)] (tb S13O.L3)).eqs [(29, 24)]).more T7
theorem X7_ok : CxOk Tryd.prog X7 GlobD := ((cx_ok (E := [(27, 12)]) S13O.L3 ⟨⟨G2K.eqF, G2K.gdF⟩, trivial⟩ (by kernel_rfl)).eqs (EM := [(29, 24)]) ⟨⟨eqG, gdG⟩, trivial⟩).more T7_ok
set_option maxRecDepth 100000 in
theorem lSum0 (A A' : Option Addr) (c c' : Nat)  (w : World) (hG : GS (GR GlobD [(A, krow []), (A', prow [])]) [] w) : Calls Tryd.prog 24 #[.slice A 0 c, .slice A' 0 c'] w fun e w' => e = .returned ((sumA (sumG none [] [])).den []) ∧ RowKit.Below w.heap.size w w' := by
  let K : Row := krow []
  let P : Row := prow []
  let Q : SR := [(A, K), (A', P)]
  let T : SS := []
  have hw : ∀ s ∈ T, Words s.2.2.1 := fun s hs => by have hs : s ∈ ([] : SS) := hs; cases hs
  have hr : ∀ s ∈ Q, Ok s.2 := List.forall_mem_cons.2 ⟨trivial, List.forall_mem_cons.2 ⟨trivial, fun _ h => by cases h⟩⟩
  have ha : ∀ v ∈ [AV.xr A 0 c K, .xr A' 0 c' P], v.Ok 0 := List.forall_mem_cons.2 ⟨trivial, List.forall_mem_cons.2 ⟨trivial, fun _ h => by cases h⟩⟩
  exact fn_outR (N := 9) X7_ok GlobD.keep Tryd.func24 T Q hw hr hG (args := [.xr A 0 c K, .xr A' 0 c' P]) (q := [true, false]) (v := (sumA (z_, 0))) (obs := [qb true (((0 : Nat) : Int) = ((0 : Nat) : Int))] ++ ([qb false ((0 : Int) < ((0 : Nat) : Int))])) 1 (by kernel_rfl) (happ (hp rfl trivial) (hp (by decide : ¬ (_ : Int) < _) trivial)) ha (sum_e acc_0) rfl
set_option maxRecDepth 100000 in
theorem lSum1 (A A' : Option Addr) (c c' : Nat) (A1 : Option Addr) (n1 c1 : Nat) (l1 : List Int) (B1 : Nat) (x1 : List Int) (b1 : Bool) (hn1 : n1 ≤ 10000) (hw1 : Words l1) (hx1 : Nm 24 x1) (w : World) (hG : GS (GR GlobD [(A, krow [(A1, n1, c1, l1)]), (A', prow [(x1, b1)])]) [(A1, n1, l1, B1)] w) : Calls Tryd.prog 24 #[.slice A 1 c, .slice A' 1 c'] w fun e w' => e = .returned ((sumA (sumG none [l1] [(x1, b1)])).den []) ∧ RowKit.Below w.heap.size w w' := by
  let K : Row := krow [(A1, n1, c1, l1)]
  let P : Row := prow [(x1, b1)]
  let Q : SR := [(A, K), (A', P)]
  let T : SS := [(A1, n1, l1, B1)]
  have hw : ∀ s ∈ T, Words s.2.2.1 := List.forall_mem_cons.2 ⟨hw1, fun _ h => by cases h⟩
  have hr : ∀ s ∈ Q, Ok s.2 := List.forall_mem_cons.2 ⟨⟨trivial, trivial⟩, List.forall_mem_cons.2 ⟨⟨hx1, trivial, trivial⟩, fun _ h => by cases h⟩⟩
  have ha : ∀ v ∈ [AV.xr A 1 c K, .xr A' 1 c' P], v.Ok 0 := List.forall_mem_cons.2 ⟨trivial, List.forall_mem_cons.2 ⟨trivial, fun _ h => by cases h⟩⟩
  have pa : RS Q A K ∧ 0 < sz K := ⟨List.mem_cons_self, Nat.le_of_ble_eq_true rfl⟩
  have pb : RS Q A' P ∧ 0 < sz P := ⟨List.mem_cons_of_mem _ List.mem_cons_self, Nat.le_of_ble_eq_true rfl⟩
  cases e1 : on_ x1 b1
  · exact fn_outR (N := 9) X7_ok GlobD.keep Tryd.func24 T Q hw hr hG (args := [.xr A 1 c K, .xr A' 1 c' P]) (q := [true, true, false]) (v := (.tup [.agg [.nums 24 (List.replicate 24 0), .nm (.bl false)], .num .i64 (er_ x1 b1)])) (obs := [qb true (((1 : Nat) : Int) = ((1 : Nat) : Int))] ++ (ol 1 0 Q T A A' K P A1 n1 l1 ++ ([qb false (er_ x1 b1 = 0)]))) 1 (by kernel_rfl) (happ (hp rfl trivial) (happ (ol_ok (by decide) pa pb B1 List.mem_cons_self hn1) (hp (er_f e1) trivial))) ha (by rw [g_f e1]; exact er_v e1) rfl
  · skip
    exact fn_outR (N := 9) X7_ok GlobD.keep Tryd.func24 T Q hw hr hG (args := [.xr A 1 c K, .xr A' 1 c' P]) (q := [true, true, true, false]) (v := (sumA (addP K2.F (z_) (vo_ (mo_ l1 x1 b1)), 0))) (obs := [qb true (((1 : Nat) : Int) = ((1 : Nat) : Int))] ++ (ol 1 0 Q T A A' K P A1 n1 l1 ++ ([qb true (er_ x1 b1 = 0)] ++ ([qb false ((1 : Int) < ((1 : Nat) : Int))])))) 1 (by kernel_rfl) (happ (hp rfl trivial) (happ (ol_ok (by decide) pa pb B1 List.mem_cons_self hn1) (happ (hp (er_t e1) trivial) (hp (by decide : ¬ (_ : Int) < _) trivial)))) ha (by rw [g_t e1]; exact sum_e (acc_1 e1 acc_0)) rfl
set_option maxRecDepth 100000 in
theorem lSum2 (A A' : Option Addr) (c c' : Nat) (A1 : Option Addr) (n1 c1 : Nat) (l1 : List Int) (B1 : Nat) (x1 : List Int) (b1 : Bool) (hn1 : n1 ≤ 10000) (hw1 : Words l1) (hx1 : Nm 24 x1) (A2 : Option Addr) (n2 c2 : Nat) (l2 : List Int) (B2 : Nat) (x2 : List Int) (b2 : Bool) (hn2 : n2 ≤ 10000) (hw2 : Words l2) (hx2 : Nm 24 x2) (w : World) (hG : GS (GR GlobD [(A, krow [(A1, n1, c1, l1), (A2, n2, c2, l2)]), (A', prow [(x1, b1), (x2, b2)])]) [(A1, n1, l1, B1), (A2, n2, l2, B2)] w) : Calls Tryd.prog 24 #[.slice A 2 c, .slice A' 2 c'] w fun e w' => e = .returned ((sumA (sumG none [l1, l2] [(x1, b1), (x2, b2)])).den []) ∧ RowKit.Below w.heap.size w w' := by
  let K : Row := krow [(A1, n1, c1, l1), (A2, n2, c2, l2)]
  let P : Row := prow [(x1, b1), (x2, b2)]
  let Q : SR := [(A, K), (A', P)]
  let T : SS := [(A1, n1, l1, B1), (A2, n2, l2, B2)]
  have hw : ∀ s ∈ T, Words s.2.2.1 := List.forall_mem_cons.2 ⟨hw1, List.forall_mem_cons.2 ⟨hw2, fun _ h => by cases h⟩⟩
  have hr : ∀ s ∈ Q, Ok s.2 := List.forall_mem_cons.2 ⟨⟨trivial, ⟨trivial, trivial⟩⟩, List.forall_mem_cons.2 ⟨⟨hx1, trivial, ⟨hx2, trivial, trivial⟩⟩, fun _ h => by cases h⟩⟩
  have ha : ∀ v ∈ [AV.xr A 2 c K, .xr A' 2 c' P], v.Ok 0 := List.forall_mem_cons.2 ⟨trivial, List.forall_mem_cons.2 ⟨trivial, fun _ h => by cases h⟩⟩
  have pa : RS Q A K ∧ 0 < sz K := ⟨List.mem_cons_self, Nat.le_of_ble_eq_true rfl⟩
  have pb : RS Q A' P ∧ 0 < sz P := ⟨List.mem_cons_of_mem _ List.mem_cons_self, Nat.le_of_ble_eq_true rfl⟩
  cases e1 : on_ x1 b1
  · exact fn_outR (N := 9) X7_ok GlobD.keep Tryd.func24 T Q hw hr hG (args := [.xr A 2 c K, .xr A' 2 c' P]) (q := [true, true, false]) (v := (.tup [.agg [.nums 24 (List.replicate 24 0), .nm (.bl false)], .num .i64 (er_ x1 b1)])) (obs := [qb true (((2 : Nat) : Int) = ((2 : Nat) : Int))] ++ (ol 2 0 Q T A A' K P A1 n1 l1 ++ ([qb false (er_ x1 b1 = 0)]))) 1 (by kernel_rfl) (happ (hp rfl trivial) (happ (ol_ok (by decide) pa pb B1 List.mem_cons_self hn1) (hp (er_f e1) trivial))) ha (by rw [g_f e1]; exact er_v e1) rfl
  · skip
    cases e2 : on_ x2 b2
    · exact fn_outR (N := 9) X7_ok GlobD.keep Tryd.func24 T Q hw hr hG (args := [.xr A 2 c K, .xr A' 2 c' P]) (q := [true, true, true, true, false]) (v := (.tup [.agg [.nums 24 (List.replicate 24 0), .nm (.bl false)], .num .i64 (er_ x2 b2)])) (obs := [qb true (((2 : Nat) : Int) = ((2 : Nat) : Int))] ++ (ol 2 0 Q T A A' K P A1 n1 l1 ++ ([qb true (er_ x1 b1 = 0)] ++ (ol 2 1 Q T A A' K P A2 n2 l2 ++ ([qb false (er_ x2 b2 = 0)]))))) 1 (by kernel_rfl) (happ (hp rfl trivial) (happ (ol_ok (by decide) pa pb B1 List.mem_cons_self hn1) (happ (hp (er_t e1) trivial) (happ (ol_ok (by decide) pa pb B2 (List.mem_cons_of_mem _ List.mem_cons_self) hn2) (hp (er_f e2) trivial))))) ha (by rw [g_t e1, g_f e2]; exact er_v e2) rfl
    · skip
      exact fn_outR (N := 9) X7_ok GlobD.keep Tryd.func24 T Q hw hr hG (args := [.xr A 2 c K, .xr A' 2 c' P]) (q := [true, true, true, true, true, false]) (v := (sumA (addP K2.F (vo_ (addP K2.F (z_) (vo_ (mo_ l1 x1 b1)))) (vo_ (mo_ l2 x2 b2)), 0))) (obs := [qb true (((2 : Nat) : Int) = ((2 : Nat) : Int))] ++ (ol 2 0 Q T A A' K P A1 n1 l1 ++ ([qb true (er_ x1 b1 = 0)] ++ (ol 2 1 Q T A A' K P A2 n2 l2 ++ ([qb true (er_ x2 b2 = 0)] ++ ([qb false ((2 : Int) < ((2 : Nat) : Int))])))))) 1 (by kernel_rfl) (happ (hp rfl trivial) (happ (ol_ok (by decide) pa pb B1 List.mem_cons_self hn1) (happ (hp (er_t e1) trivial) (happ (ol_ok (by decide) pa pb B2 (List.mem_cons_of_mem _ List.mem_cons_self) hn2) (happ (hp (er_t e2) trivial) (hp (by decide : ¬ (_ : Int) < _) trivial)))))) ha (by rw [g_t e1, g_t e2]; exact sum_e (acc_1 e2 (eqP_trans K2.F (ptv_out K2 _) (acc_1 e1 acc_0)))) rfl
set_option maxRecDepth 100000 in
theorem lSum3 (A A' : Option Addr) (c c' : Nat) (A1 : Option Addr) (n1 c1 : Nat) (l1 : List Int) (B1 : Nat) (x1 : List Int) (b1 : Bool) (hn1 : n1 ≤ 10000) (hw1 : Words l1) (hx1 : Nm 24 x1) (A2 : Option Addr) (n2 c2 : Nat) (l2 : List Int) (B2 : Nat) (x2 : List Int) (b2 : Bool) (hn2 : n2 ≤ 10000) (hw2 : Words l2) (hx2 : Nm 24 x2) (A3 : Option Addr) (n3 c3 : Nat) (l3 : List Int) (B3 : Nat) (x3 : List Int) (b3 : Bool) (hn3 : n3 ≤ 10000) (hw3 : Words l3) (hx3 : Nm 24 x3) (w : World) (hG : GS (GR GlobD [(A, krow [(A1, n1, c1, l1), (A2, n2, c2, l2), (A3, n3, c3, l3)]), (A', prow [(x1, b1), (x2, b2), (x3, b3)])]) [(A1, n1, l1, B1), (A2, n2, l2, B2), (A3, n3, l3, B3)] w) : Calls Tryd.prog 24 #[.slice A 3 c, .slice A' 3 c'] w fun e w' => e = .returned ((sumA (sumG none [l1, l2, l3] [(x1, b1), (x2, b2), (x3, b3)])).den []) ∧ RowKit.Below w.heap.size w w' := by
  let K : Row := krow [(A1, n1, c1, l1), (A2, n2, c2, l2), (A3, n3, c3, l3)]
  let P : Row := prow [(x1, b1), (x2, b2), (x3, b3)]
  let Q : SR := [(A, K), (A', P)]
  let T : SS := [(A1, n1, l1, B1), (A2, n2, l2, B2), (A3, n3, l3, B3)]
  have hw : ∀ s ∈ T, Words s.2.2.1 := List.forall_mem_cons.2 ⟨hw1, List.forall_mem_cons.2 ⟨hw2, List.forall_mem_cons.2 ⟨hw3, fun _ h => by cases h⟩⟩⟩
  have hr : ∀ s ∈ Q, Ok s.2 := List.forall_mem_cons.2 ⟨⟨trivial, ⟨trivial, ⟨trivial, trivial⟩⟩⟩, List.forall_mem_cons.2 ⟨⟨hx1, trivial, ⟨hx2, trivial, ⟨hx3, trivial, trivial⟩⟩⟩, fun _ h => by cases h⟩⟩
  have ha : ∀ v ∈ [AV.xr A 3 c K, .xr A' 3 c' P], v.Ok 0 := List.forall_mem_cons.2 ⟨trivial, List.forall_mem_cons.2 ⟨trivial, fun _ h => by cases h⟩⟩
  have pa : RS Q A K ∧ 0 < sz K := ⟨List.mem_cons_self, Nat.le_of_ble_eq_true rfl⟩
  have pb : RS Q A' P ∧ 0 < sz P := ⟨List.mem_cons_of_mem _ List.mem_cons_self, Nat.le_of_ble_eq_true rfl⟩
  cases e1 : on_ x1 b1
  · exact fn_outR (N := 9) X7_ok GlobD.keep Tryd.func24 T Q hw hr hG (args := [.xr A 3 c K, .xr A' 3 c' P]) (q := [true, true, false]) (v := (.tup [.agg [.nums 24 (List.replicate 24 0), .nm (.bl false)], .num .i64 (er_ x1 b1)])) (obs := [qb true (((3 : Nat) : Int) = ((3 : Nat) : Int))] ++ (ol 3 0 Q T A A' K P A1 n1 l1 ++ ([qb false (er_ x1 b1 = 0)]))) 1 (by kernel_rfl) (happ (hp rfl trivial) (happ (ol_ok (by decide) pa pb B1 List.mem_cons_self hn1) (hp (er_f e1) trivial))) ha (by rw [g_f e1]; exact er_v e1) rfl
  · skip
    cases e2 : on_ x2 b2
    · exact fn_outR (N := 9) X7_ok GlobD.keep Tryd.func24 T Q hw hr hG (args := [.xr A 3 c K, .xr A' 3 c' P]) (q := [true, true, true, true, false]) (v := (.tup [.agg [.nums 24 (List.replicate 24 0), .nm (.bl false)], .num .i64 (er_ x2 b2)])) (obs := [qb true (((3 : Nat) : Int) = ((3 : Nat) : Int))] ++ (ol 3 0 Q T A A' K P A1 n1 l1 ++ ([qb true (er_ x1 b1 = 0)] ++ (ol 3 1 Q T A A' K P A2 n2 l2 ++ ([qb false (er_ x2 b2 = 0)]))))) 1 (by kernel_rfl) (happ (hp rfl trivial) (happ (ol_ok (by decide) pa pb B1 List.mem_cons_self hn1) (happ (hp (er_t e1) trivial) (happ (ol_ok (by decide) pa pb B2 (List.mem_cons_of_mem _ List.mem_cons_self) hn2) (hp (er_f e2) trivial))))) ha (by rw [g_t e1, g_f e2]; exact er_v e2) rfl
    · skip
      cases e3 : on_ x3 b3
      · exact fn_outR (N := 9) X7_ok GlobD.keep Tryd.func24 T Q hw hr hG (args := [.xr A 3 c K, .xr A' 3 c' P]) (q := [true, true, true, true, true, true, false]) (v := (.tup [.agg [.nums 24 (List.replicate 24 0), .nm (.bl false)], .num .i64 (er_ x3 b3)])) (obs := [qb true (((3 : Nat) : Int) = ((3 : Nat) : Int))] ++ (ol 3 0 Q T A A' K P A1 n1 l1 ++ ([qb true (er_ x1 b1 = 0)] ++ (ol 3 1 Q T A A' K P A2 n2 l2 ++ ([qb true (er_ x2 b2 = 0)] ++ (ol 3 2 Q T A A' K P A3 n3 l3 ++ ([qb false (er_ x3 b3 = 0)]))))))) 1 (by kernel_rfl) (happ (hp rfl trivial) (happ (ol_ok (by decide) pa pb B1 List.mem_cons_self hn1) (happ (hp (er_t e1) trivial) (happ (ol_ok (by decide) pa pb B2 (List.mem_cons_of_mem _ List.mem_cons_self) hn2) (happ (hp (er_t e2) trivial) (happ (ol_ok (by decide) pa pb B3 (List.mem_cons_of_mem _ (List.mem_cons_of_mem _ List.mem_cons_self)) hn3) (hp (er_f e3) trivial))))))) ha (by rw [g_t e1, g_t e2, g_f e3]; exact er_v e3) rfl
      · skip
        exact fn_outR (N := 9) X7_ok GlobD.keep Tryd.func24 T Q hw hr hG (args := [.xr A 3 c K, .xr A' 3 c' P]) (q := [true, true, true, true, true, true, true, false]) (v := (sumA (addP K2.F (vo_ (addP K2.F (vo_ (addP K2.F (z_) (vo_ (mo_ l1 x1 b1)))) (vo_ (mo_ l2 x2 b2)))) (vo_ (mo_ l3 x3 b3)), 0))) (obs := [qb true (((3 : Nat) : Int) = ((3 : Nat) : Int))] ++ (ol 3 0 Q T A A' K P A1 n1 l1 ++ ([qb true (er_ x1 b1 = 0)] ++ (ol 3 1 Q T A A' K P A2 n2 l2 ++ ([qb true (er_ x2 b2 = 0)] ++ (ol 3 2 Q T A A' K P A3 n3 l3 ++ ([qb true (er_ x3 b3 = 0)] ++ ([qb false ((3 : Int) < ((3 : Nat) : Int))])))))))) 1 (by kernel_rfl) (happ (hp rfl trivial) (happ (ol_ok (by decide) pa pb B1 List.mem_cons_self hn1) (happ (hp (er_t e1) trivial) (happ (ol_ok (by decide) pa pb B2 (List.mem_cons_of_mem _ List.mem_cons_self) hn2) (happ (hp (er_t e2) trivial) (happ (ol_ok (by decide) pa pb B3 (List.mem_cons_of_mem _ (List.mem_cons_of_mem _ List.mem_cons_self)) hn3) (happ (hp (er_t e3) trivial) (hp (by decide : ¬ (_ : Int) < _) trivial)))))))) ha (by rw [g_t e1, g_t e2, g_t e3]; exact sum_e (acc_1 e3 (eqP_trans K2.F (ptv_out K2 _) (acc_1 e2 (eqP_trans K2.F (ptv_out K2 _) (acc_1 e1 acc_0)))))) rfl
set_option maxRecDepth 100000 in
theorem lSumN (A A' : Option Addr) (c c' n m : Nat) (r r' : Row) (hnm : ¬ n = m) (w : World) (hG : GlobD w) : Calls Tryd.prog 24 #[.slice A n c, .slice A' m c'] w fun e w' => e = .returned ((sumA (some (K2.F.int 0, K2.F.int 0), 1)).den []) ∧ RowKit.Below w.heap.size w w' :=
  fn_outR (N := 9) X7_ok GlobD.keep Tryd.func24 [] [] (fun s hs => by cases hs) (fun s hs => by cases hs) ⟨⟨hG, fun s hs => by cases hs⟩, fun s hs => by cases hs⟩ (args := [.xr A n c r, .xr A' m c' r']) (q := [false]) (v := .tup [.agg [.nums 24 (List.replicate 24 0), .nm (.bl false)], .num .i64 1]) (obs := [qb false ((n : Int) = (m : Int))]) 1 (by kernel_rfl) (hp (show ¬ ((n : Int) = m) by omega) trivial) (fun v hv => by
      simp only [List.mem_cons, List.not_mem_nil, or_false] at hv
      rcases hv with rfl | rfl <;> trivial) (by rw [sumA, zz]; rfl) rfl
theorem lSum : ConG Tryd.prog GlobD 24 [.rows, .rows] preS oS := by
  intro l hl hp
  match l, hl, hp with
  | [.rows n1 r1, .rows n2 r2], ⟨⟨ok1, w1⟩, ⟨ok2, w2⟩, _⟩, ⟨⟨ks, e1, k2, k3, k4⟩, ⟨ps, e2, p2, p3⟩, _⟩ =>
    refine ⟨sumA_ok _, fun gs => rfl, fun w hG vs hv => ?_⟩
    match vs, hv with
    | [v, u], ⟨⟨A, c, hv, d1, d2⟩, ⟨A', c', hu, d3, d4⟩, _⟩ =>
      obtain rfl := hv
      obtain rfl := hu
      show Calls _ _ _ _ fun e w' => e = .returned ((sumA (sumR n1 r1 n2 r2)).den []) ∧ _
      by_cases hnm : n1 = n2
      · rw [sumR, if_pos hnm]
        subst hnm e1 e2
        match ks, ps, k2, p2 with
        | [], [], k2, p2 =>
          obtain rfl := k2
          exact lSum0 A A' c c'  w ⟨⟨hG, fun s hs => by
            simp only [List.mem_cons, List.not_mem_nil, or_false] at hs
            rcases hs with rfl | rfl
            · exact d1
            · exact d3⟩, fun s hs => by
            simp only [List.mem_cons, List.not_mem_nil, or_false] at hs
            ⟩
        | [(A1, n1, c1, l1)], [(x1, b1)], k2, p2 =>
          obtain rfl := k2
          obtain ⟨B1, hB1⟩ := d2 (A1, n1, l1) (List.mem_cons_self)
          have hw1 : Words l1 := w1 (A1, n1, l1) (List.mem_cons_self)
          have hn1 : n1 ≤ 10000 := k4 (A1, n1, c1, l1) (List.mem_cons_self)
          have hx1 : Nm 24 x1 := ok2.1
          exact lSum1 A A' c c' A1 n1 c1 l1 B1 x1 b1 hn1 hw1 hx1 w ⟨⟨hG, fun s hs => by
            simp only [List.mem_cons, List.not_mem_nil, or_false] at hs
            rcases hs with rfl | rfl
            · exact d1
            · exact d3⟩, fun s hs => by
            simp only [List.mem_cons, List.not_mem_nil, or_false] at hs
            subst hs
            exact hB1⟩
        | [(A1, n1, c1, l1), (A2, n2, c2, l2)], [(x1, b1), (x2, b2)], k2, p2 =>
          obtain rfl := k2
          obtain ⟨B1, hB1⟩ := d2 (A1, n1, l1) (List.mem_cons_self)
          have hw1 : Words l1 := w1 (A1, n1, l1) (List.mem_cons_self)
          have hn1 : n1 ≤ 10000 := k4 (A1, n1, c1, l1) (List.mem_cons_self)
          have hx1 : Nm 24 x1 := ok2.1
          obtain ⟨B2, hB2⟩ := d2 (A2, n2, l2) (List.mem_cons_of_mem _ (List.mem_cons_self))
          have hw2 : Words l2 := w1 (A2, n2, l2) (List.mem_cons_of_mem _ (List.mem_cons_self))
          have hn2 : n2 ≤ 10000 := k4 (A2, n2, c2, l2) (List.mem_cons_of_mem _ (List.mem_cons_self))
          have hx2 : Nm 24 x2 := ok2.2.2.1
          exact lSum2 A A' c c' A1 n1 c1 l1 B1 x1 b1 hn1 hw1 hx1 A2 n2 c2 l2 B2 x2 b2 hn2 hw2 hx2 w ⟨⟨hG, fun s hs => by
            simp only [List.mem_cons, List.not_mem_nil, or_false] at hs
            rcases hs with rfl | rfl
            · exact d1
            · exact d3⟩, fun s hs => by
            simp only [List.mem_cons, List.not_mem_nil, or_false] at hs
            rcases hs with rfl | rfl
            · exact hB1
            · exact hB2⟩
        | [(A1, n1, c1, l1), (A2, n2, c2, l2), (A3, n3, c3, l3)], [(x1, b1), (x2, b2), (x3, b3)], k2, p2 =>
          obtain rfl := k2
          obtain ⟨B1, hB1⟩ := d2 (A1, n1, l1) (List.mem_cons_self)
          have hw1 : Words l1 := w1 (A1, n1, l1) (List.mem_cons_self)
          have hn1 : n1 ≤ 10000 := k4 (A1, n1, c1, l1) (List.mem_cons_self)
          have hx1 : Nm 24 x1 := ok2.1
          obtain ⟨B2, hB2⟩ := d2 (A2, n2, l2) (List.mem_cons_of_mem _ (List.mem_cons_self))
          have hw2 : Words l2 := w1 (A2, n2, l2) (List.mem_cons_of_mem _ (List.mem_cons_self))
          have hn2 : n2 ≤ 10000 := k4 (A2, n2, c2, l2) (List.mem_cons_of_mem _ (List.mem_cons_self))
          have hx2 : Nm 24 x2 := ok2.2.2.1
          obtain ⟨B3, hB3⟩ := d2 (A3, n3, l3) (List.mem_cons_of_mem _ (List.mem_cons_of_mem _ (List.mem_cons_self)))
          have hw3 : Words l3 := w1 (A3, n3, l3) (List.mem_cons_of_mem _ (List.mem_cons_of_mem _ (List.mem_cons_self)))
          have hn3 : n3 ≤ 10000 := k4 (A3, n3, c3, l3) (List.mem_cons_of_mem _ (List.mem_cons_of_mem _ (List.mem_cons_self)))
          have hx3 : Nm 24 x3 := ok2.2.2.2.2.1
          exact lSum3 A A' c c' A1 n1 c1 l1 B1 x1 b1 hn1 hw1 hx1 A2 n2 c2 l2 B2 x2 b2 hn2 hw2 hx2 A3 n3 c3 l3 B3 x3 b3 hn3 hw3 hx3 w ⟨⟨hG, fun s hs => by
            simp only [List.mem_cons, List.not_mem_nil, or_false] at hs
            rcases hs with rfl | rfl
            · exact d1
            · exact d3⟩, fun s hs => by
            simp only [List.mem_cons, List.not_mem_nil, or_false] at hs
            rcases hs with rfl | rfl | rfl
            · exact hB1
            · exact hB2
            · exact hB3⟩
        | _ :: _ :: _ :: _ :: _, _, k2, _ => exact absurd k3 (by simp only [List.length_cons] at k2; omega)
        | [], _ :: _, k2, p2 => exact absurd (k2.trans p2.symm) (by simp)
        | [_], [], k2, p2 => exact absurd (k2.trans p2.symm) (by simp)
        | [_], _ :: _ :: _, k2, p2 => exact absurd (k2.trans p2.symm) (by simp)
        | [_, _], [], k2, p2 => exact absurd (k2.trans p2.symm) (by simp)
        | [_, _], [_], k2, p2 => exact absurd (k2.trans p2.symm) (by simp)
        | [_, _], _ :: _ :: _ :: _, k2, p2 => exact absurd (k2.trans p2.symm) (by simp)
        | [_, _, _], [], k2, p2 => exact absurd (k2.trans p2.symm) (by simp)
        | [_, _, _], [_], k2, p2 => exact absurd (k2.trans p2.symm) (by simp)
        | [_, _, _], [_, _], k2, p2 => exact absurd (k2.trans p2.symm) (by simp)
        | [_, _, _], _ :: _ :: _ :: _ :: _, k2, p2 => exact absurd (k2.trans p2.symm) (by simp)
      · rw [sumR, if_neg hnm]
        exact lSumN A A' c c' n1 n2 r1 r2 hnm w hG
end Go.Proofs.YtajiinecicghkaaDoor.S13P
