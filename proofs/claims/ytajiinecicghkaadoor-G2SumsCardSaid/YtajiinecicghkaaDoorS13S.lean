/-
  Own text. Layer 13, the document's answer by the reckoner: sums of multiples.
-/
import Derived.Test.YtajiinecicghkaaDoorS13R
namespace Go.Proofs.YtajiinecicghkaaDoor.S13S
set_option linter.unusedVariables false
set_option linter.unusedSimpArgs false
open Go Go.RowKit Go.Proofs.YtajiinecicghkaaDoor.Reg Go.Proofs.YtajiinecicghkaaDoor.Base Go.Proofs.YtajiinecicghkaaDoor.Limb Go.Proofs.YtajiinecicghkaaDoor.Sx Go.Proofs.YtajiinecicghkaaDoor.Fp Go.Proofs.YtajiinecicghkaaDoor.Fp2 Go.Proofs.YtajiinecicghkaaDoor.Ec Go.Proofs.YtajiinecicghkaaDoor.Pts Go.Proofs.YtajiinecicghkaaDoor.G2K Go.Proofs.YtajiinecicghkaaDoor.Ey Go.Proofs.YtajiinecicghkaaDoor.S13R

def T6 : List (FuncId × Ent2) := [(23, entG [.sl, .p 24] Pre0 (oM mulA)), (15, entG [.p 24, .p 24] Pre0 (o2 fun x b y c => PA (addP K2.F (ptv K2 x b) (ptv K2 y c)))), (19, entG [.p 24] Pre0 (o1 fun x b => PA (ptv K2 x b))), (17, entG [.p 24] Pre0 (o1 fun x b => PA (negP K2.F (ptv K2 x b)))), (21, entG [.p 24] Pre0 (o1 fun x b => .bl (onB K2 bb (ptv K2 x b))))]
theorem T6_ok : TOk2 Tryd.prog GlobD T6 := ⟨.conG Tryd.func23 rfl (by decide) qMul, .conG Tryd.func15 rfl (by decide) qAdd, .conG Tryd.func19 rfl (by decide) qReduce, .conG Tryd.func17 rfl (by decide) qNeg, .conG Tryd.func21 rfl (by decide) qOn, trivial⟩
def X6 : Cx := ((Cx.of [(27, 12)] (tb L1)).eqs [(29, 24)]).more T6
theorem X6_ok : CxOk Tryd.prog X6 GlobD := ((cx_ok (E := [(27, 12)]) L1 ⟨⟨G2K.eqF, G2K.gdF⟩, trivial⟩ (by kernel_rfl)).eqs (EM := [(29, 24)]) ⟨⟨eqG, gdG⟩, trivial⟩).more T6_ok
/-- Slices of words, points, as they stand in rows. -/
def krow : List (Option Addr × Nat × Nat × List Int) → Row
  | [] => []
  | (A, n, c, l) :: r => .nm (.ext A n c l) :: krow r
def prow : List (List Int × Bool) → Row
  | [] => []
  | (x, b) :: r => .nums 24 x :: .nm (.bl b) :: prow r
def kOf : Row → List (List Int)
  | [] => []
  | .nm (.ext _ _ _ l) :: r => l :: kOf r
  | _ :: r => kOf r
def pOf : Row → List (List Int × Bool)
  | .nums _ x :: .nm (.bl b) :: r => (x, b) :: pOf r
  | _ => []
/-- Points, each so many times, added. -/
def sumG (acc : Pt Fp2.G) : List (List Int) → List (List Int × Bool) → Pt Fp2.G × Int
  | l :: ls, (x, b) :: ps => if onB K2 bb (ptv K2 x b) = true then sumG (addP K2.F acc (mulP K2.F (num l).toNat (ptv K2 x b))) ls ps else (some (K2.F.int 0, K2.F.int 0), 120)
  | _, _ => (acc, 0)
--SUM
abbrev on_ (x : List Int) (b : Bool) : Bool := onB K2 bb (ptv K2 x b)
abbrev mo_ (l x : List Int) (b : Bool) : Pt Fp2.G := mulO K2 bb (num l).toNat (ptv K2 x b)
abbrev vo_ (A : Pt Fp2.G) : Pt Fp2.G := ptv K2 (ptW K2 A) (ptB A)
abbrev er_ (x : List Int) (b : Bool) : Int := if on_ x b = true then 0 else 120
abbrev z_ : Pt Fp2.G := ptv K2 [0, 0, 0, 0, 0, 0, 0, 0, 0, 0, 0, 0, 0, 0, 0, 0, 0, 0, 0, 0, 0, 0, 0, 0] true
/-- What one round asks: the documents' order, the landed one. -/
def oq (k : Nat) (I : Int) (Q : SR) (T : SS) (A A' : Option Addr) (K P : Row) (a : Option Addr) (n : Nat) (l : List Int) : List Ob :=
  [qb true (I < (k : Int)), 0 ≤ I ∧ I < (k : Int), RS Q A K ∧ 0 < sz K, RS Q A K ∧ 0 < sz K, 0 ≤ I ∧ I < (k : Int), RS Q A' P ∧ 0 < sz P, RS Q A' P ∧ 0 < sz P, DS T a n l, n ≤ 10000]
def ol (k : Nat) (I : Int) (Q : SR) (T : SS) (A A' : Option Addr) (K P : Row) (a : Option Addr) (n : Nat) (l : List Int) : List Ob :=
  [qb true (I < (k : Int)), 0 ≤ I ∧ I < (k : Int), RS Q A' P ∧ 0 < sz P, RS Q A' P ∧ 0 < sz P, 0 ≤ I ∧ I < (k : Int), RS Q A K ∧ 0 < sz K, RS Q A K ∧ 0 < sz K, DS T a n l, n ≤ 10000]
theorem happ : ∀ {a b : List Ob}, Holds a → Holds b → Holds (a ++ b)
  | [], _, _, h => h
  | _ :: _, _, h, h' => ⟨h.1, happ h.2 h'⟩
section
variable {k : Nat} {I : Int} {Q : SR} {T : SS} {A A' : Option Addr} {K P : Row} {a : Option Addr} {n : Nat} {l : List Int}
theorem oq_ok (h : 0 ≤ I ∧ I < (k : Int)) (p : RS Q A K ∧ 0 < sz K) (q : RS Q A' P ∧ 0 < sz P) (B : Nat) (d : (a, n, l, B) ∈ T) (e : n ≤ 10000) : Holds (oq k I Q T A A' K P a n l) := ⟨h.2, h, p, p, h, q, q, ⟨B, d⟩, e, trivial⟩
theorem ol_ok (h : 0 ≤ I ∧ I < (k : Int)) (p : RS Q A K ∧ 0 < sz K) (q : RS Q A' P ∧ 0 < sz P) (B : Nat) (d : (a, n, l, B) ∈ T) (e : n ≤ 10000) : Holds (ol k I Q T A A' K P a n l) := ⟨h.2, h, q, q, h, p, p, ⟨B, d⟩, e, trivial⟩
end
theorem on_f {x : List Int} {b : Bool} (e : on_ x b = false) : ¬ onB K2 bb (ptv K2 x b) = true := fun h => Bool.false_ne_true (e.symm.trans h)
theorem er_t {x : List Int} {b : Bool} (e : on_ x b = true) : qb true (er_ x b = 0) := if_pos e
theorem er_f {x : List Int} {b : Bool} (e : on_ x b = false) : qb false (er_ x b = 0) := by
  show ¬ er_ x b = 0
  rw [er_, if_neg (on_f e)]
  decide
def sumA (t : Pt Fp2.G × Int) : AV := .tup [.agg [.nums 24 (ptW K2 t.1), .nm (.bl (ptB t.1))], .num .i64 t.2]
theorem zz : ptW K2 (some (K2.F.int 0, K2.F.int 0)) = List.replicate 24 0 := by rw [ptW, h0]; rfl
theorem er_v {x : List Int} {b : Bool} (e : on_ x b = false) : (AV.tup [.agg [.nums 24 (List.replicate 24 0), .nm (.bl false)], .num .i64 (er_ x b)]).den [] = (sumA (some (K2.F.int 0, K2.F.int 0), 120)).den [] := by
  rw [er_, if_neg (on_f e), sumA, zz]
  rfl
theorem acc_1 {l x : List Int} {b : Bool} {S T : Pt Fp2.G} (e : on_ x b = true) (h : EqP K2.F S T) : EqP K2.F (addP K2.F S (vo_ (mo_ l x b))) (addP K2.F T (mulP K2.F (num l).toNat (ptv K2 x b))) := by
  refine add_eq' K2.F h (eqP_trans K2.F (ptv_out K2 _) ?_)
  rw [mo_, mulO, if_pos e]
  exact eqP_refl K2.F _
theorem acc_0 : EqP K2.F z_ none := by rw [z_, ptv_t]; trivial
theorem g_t {l x : List Int} {b : Bool} {S : Pt Fp2.G} {ls : List (List Int)} {ps : List (List Int × Bool)} (e : on_ x b = true) : sumG S (l :: ls) ((x, b) :: ps) = sumG (addP K2.F S (mulP K2.F (num l).toNat (ptv K2 x b))) ls ps := by rw [sumG, if_pos e]
theorem g_f {l x : List Int} {b : Bool} {S : Pt Fp2.G} {ls : List (List Int)} {ps : List (List Int × Bool)} (e : on_ x b = false) : sumG S (l :: ls) ((x, b) :: ps) = (some (K2.F.int 0, K2.F.int 0), 120) := by rw [sumG, if_neg (on_f e)]
theorem sum_e {S T : Pt Fp2.G} (h : EqP K2.F S T) : (sumA (S, 0)).den [] = (sumA (T, 0)).den [] := by rw [sumA, sumA, (out_eq K2 h).1, (out_eq K2 h).2]
set_option maxRecDepth 100000 in
theorem qSum0 (A A' : Option Addr) (c c' : Nat)  (w : World) (hG : GS (GR GlobD [(A, krow []), (A', prow [])]) [] w) : Calls Tryd.prog 25 #[.slice A 0 c, .slice A' 0 c'] w fun e w' => e = .returned ((sumA (sumG none [] [])).den []) ∧ RowKit.Below w.heap.size w w' := by
  let K : Row := krow []
  let P : Row := prow []
  let Q : SR := [(A, K), (A', P)]
  let T : SS := []
  have hw : ∀ s ∈ T, Words s.2.2.1 := fun s hs => by have hs : s ∈ ([] : SS) := hs; cases hs
  have hr : ∀ s ∈ Q, Ok s.2 := List.forall_mem_cons.2 ⟨trivial, List.forall_mem_cons.2 ⟨trivial, fun _ h => by cases h⟩⟩
  have ha : ∀ v ∈ [AV.xr A 0 c K, .xr A' 0 c' P], v.Ok 0 := List.forall_mem_cons.2 ⟨trivial, List.forall_mem_cons.2 ⟨trivial, fun _ h => by cases h⟩⟩
  exact fn_outR (N := 9) X6_ok GlobD.keep Tryd.func25 T Q hw hr hG (args := [.xr A 0 c K, .xr A' 0 c' P]) (q := [true, false]) (v := (sumA (z_, 0))) (obs := [qb true (((0 : Nat) : Int) = ((0 : Nat) : Int))] ++ ([qb false ((0 : Int) < ((0 : Nat) : Int))])) 1 (by kernel_rfl) (happ (hp rfl trivial) (hp (by decide : ¬ (_ : Int) < _) trivial)) ha (sum_e acc_0) rfl
set_option maxRecDepth 100000 in
theorem qSum1 (A A' : Option Addr) (c c' : Nat) (A1 : Option Addr) (n1 c1 : Nat) (l1 : List Int) (B1 : Nat) (x1 : List Int) (b1 : Bool) (hn1 : n1 ≤ 10000) (hw1 : Words l1) (hx1 : Nm 24 x1) (w : World) (hG : GS (GR GlobD [(A, krow [(A1, n1, c1, l1)]), (A', prow [(x1, b1)])]) [(A1, n1, l1, B1)] w) : Calls Tryd.prog 25 #[.slice A 1 c, .slice A' 1 c'] w fun e w' => e = .returned ((sumA (sumG none [l1] [(x1, b1)])).den []) ∧ RowKit.Below w.heap.size w w' := by
  let K : Row := krow [(A1, n1, c1, l1)]
  let P : Row := prow [(x1, b1)]
  let Q : SR := [(A, K), (A', P)]
  let T : SS := [(A1, n1, l1, B1)]
  have hw : ∀ s ∈ T, Words s.2.2.1 := List.forall_mem_cons.2 ⟨hw1, fun _ h => by cases h⟩
  have hr : ∀ s ∈ Q, Ok s.2 := List.forall_mem_cons.2 ⟨⟨trivial, trivial⟩, List.forall_mem_cons.2 ⟨⟨hx1, trivial, trivial⟩, fun _ h => by cases h⟩⟩
  have ha : ∀ v ∈ [AV.xr A 1 c K, .xr A' 1 c' P], v.Ok 0 := List.forall_mem_cons.2 ⟨trivial, List.forall_mem_cons.2 ⟨trivial, fun _ h => by cases h⟩⟩
  have pa : RS Q A K ∧ 0 < sz K := ⟨List.mem_cons_self, Nat.le_of_ble_eq_true rfl⟩
  have pb : RS Q A' P ∧ 0 < sz P := ⟨List.mem_cons_of_mem _ List.mem_cons_self, Nat.le_of_ble_eq_true rfl⟩
  cases e1 : on_ x1 b1
  · exact fn_outR (N := 9) X6_ok GlobD.keep Tryd.func25 T Q hw hr hG (args := [.xr A 1 c K, .xr A' 1 c' P]) (q := [true, true, false]) (v := (.tup [.agg [.nums 24 (List.replicate 24 0), .nm (.bl false)], .num .i64 (er_ x1 b1)])) (obs := [qb true (((1 : Nat) : Int) = ((1 : Nat) : Int))] ++ (oq 1 0 Q T A A' K P A1 n1 l1 ++ ([qb false (er_ x1 b1 = 0)]))) 1 (by kernel_rfl) (happ (hp rfl trivial) (happ (oq_ok (by decide) pa pb B1 List.mem_cons_self hn1) (hp (er_f e1) trivial))) ha (by rw [g_f e1]; exact er_v e1) rfl
  · skip
    exact fn_outR (N := 9) X6_ok GlobD.keep Tryd.func25 T Q hw hr hG (args := [.xr A 1 c K, .xr A' 1 c' P]) (q := [true, true, true, false]) (v := (sumA (addP K2.F (z_) (vo_ (mo_ l1 x1 b1)), 0))) (obs := [qb true (((1 : Nat) : Int) = ((1 : Nat) : Int))] ++ (oq 1 0 Q T A A' K P A1 n1 l1 ++ ([qb true (er_ x1 b1 = 0)] ++ ([qb false ((1 : Int) < ((1 : Nat) : Int))])))) 1 (by kernel_rfl) (happ (hp rfl trivial) (happ (oq_ok (by decide) pa pb B1 List.mem_cons_self hn1) (happ (hp (er_t e1) trivial) (hp (by decide : ¬ (_ : Int) < _) trivial)))) ha (by rw [g_t e1]; exact sum_e (acc_1 e1 acc_0)) rfl
set_option maxRecDepth 100000 in
theorem qSum2 (A A' : Option Addr) (c c' : Nat) (A1 : Option Addr) (n1 c1 : Nat) (l1 : List Int) (B1 : Nat) (x1 : List Int) (b1 : Bool) (hn1 : n1 ≤ 10000) (hw1 : Words l1) (hx1 : Nm 24 x1) (A2 : Option Addr) (n2 c2 : Nat) (l2 : List Int) (B2 : Nat) (x2 : List Int) (b2 : Bool) (hn2 : n2 ≤ 10000) (hw2 : Words l2) (hx2 : Nm 24 x2) (w : World) (hG : GS (GR GlobD [(A, krow [(A1, n1, c1, l1), (A2, n2, c2, l2)]), (A', prow [(x1, b1), (x2, b2)])]) [(A1, n1, l1, B1), (A2, n2, l2, B2)] w) : Calls Tryd.prog 25 #[.slice A 2 c, .slice A' 2 c'] w fun e w' => e = .returned ((sumA (sumG none [l1, l2] [(x1, b1), (x2, b2)])).den []) ∧ RowKit.Below w.heap.size w w' := by
  let K : Row := krow [(A1, n1, c1, l1), (A2, n2, c2, l2)]
  let P : Row := prow [(x1, b1), (x2, b2)]
  let Q : SR := [(A, K), (A', P)]
  let T : SS := [(A1, n1, l1, B1), (A2, n2, l2, B2)]
  have hw : ∀ s ∈ T, Words s.2.2.1 := List.forall_mem_cons.2 ⟨hw1, List.forall_mem_cons.2 ⟨hw2, fun _ h => by cases h⟩⟩
  have hr : ∀ s ∈ Q, Ok s.2 := List.forall_mem_cons.2 ⟨⟨trivial, ⟨trivial, trivial⟩⟩, List.forall_mem_cons.2 ⟨⟨hx1, trivial, ⟨hx2, trivial, trivial⟩⟩, fun _ h => by cases h⟩⟩
  have ha : ∀ v ∈ [AV.xr A 2 c K, .xr A' 2 c' P], v.Ok 0 := List.forall_mem_cons.2 ⟨trivial, List.forall_mem_cons.2 ⟨trivial, fun _ h => by cases h⟩⟩
  have pa : RS Q A K ∧ 0 < sz K := ⟨List.mem_cons_self, Nat.le_of_ble_eq_true rfl⟩
  have pb : RS Q A' P ∧ 0 < sz P := ⟨List.mem_cons_of_mem _ List.mem_cons_self, Nat.le_of_ble_eq_true rfl⟩
  cases e1 : on_ x1 b1
  · exact fn_outR (N := 9) X6_ok GlobD.keep Tryd.func25 T Q hw hr hG (args := [.xr A 2 c K, .xr A' 2 c' P]) (q := [true, true, false]) (v := (.tup [.agg [.nums 24 (List.replicate 24 0), .nm (.bl false)], .num .i64 (er_ x1 b1)])) (obs := [qb true (((2 : Nat) : Int) = ((2 : Nat) : Int))] ++ (oq 2 0 Q T A A' K P A1 n1 l1 ++ ([qb false (er_ x1 b1 = 0)]))) 1 (by kernel_rfl) (happ (hp rfl trivial) (happ (oq_ok (by decide) pa pb B1 List.mem_cons_self hn1) (hp (er_f e1) trivial))) ha (by rw [g_f e1]; exact er_v e1) rfl
  · skip
    cases e2 : on_ x2 b2
    · exact fn_outR (N := 9) X6_ok GlobD.keep Tryd.func25 T Q hw hr hG (args := [.xr A 2 c K, .xr A' 2 c' P]) (q := [true, true, true, true, false]) (v := (.tup [.agg [.nums 24 (List.replicate 24 0), .nm (.bl false)], .num .i64 (er_ x2 b2)])) (obs := [qb true (((2 : Nat) : Int) = ((2 : Nat) : Int))] ++ (oq 2 0 Q T A A' K P A1 n1 l1 ++ ([qb true (er_ x1 b1 = 0)] ++ (oq 2 1 Q T A A' K P A2 n2 l2 ++ ([qb false (er_ x2 b2 = 0)]))))) 1 (by kernel_rfl) (happ (hp rfl trivial) (happ (oq_ok (by decide) pa pb B1 List.mem_cons_self hn1) (happ (hp (er_t e1) trivial) (happ (oq_ok (by decide) pa pb B2 (List.mem_cons_of_mem _ List.mem_cons_self) hn2) (hp (er_f e2) trivial))))) ha (by rw [g_t e1, g_f e2]; exact er_v e2) rfl
    · skip
      exact fn_outR (N := 9) X6_ok GlobD.keep Tryd.func25 T Q hw hr hG (args := [.xr A 2 c K, .xr A' 2 c' P]) (q := [true, true, true, true, true, false]) (v := (sumA (addP K2.F (vo_ (addP K2.F (z_) (vo_ (mo_ l1 x1 b1)))) (vo_ (mo_ l2 x2 b2)), 0))) (obs := [qb true (((2 : Nat) : Int) = ((2 : Nat) : Int))] ++ (oq 2 0 Q T A A' K P A1 n1 l1 ++ ([qb true (er_ x1 b1 = 0)] ++ (oq 2 1 Q T A A' K P A2 n2 l2 ++ ([qb true (er_ x2 b2 = 0)] ++ ([qb false ((2 : Int) < ((2 : Nat) : Int))])))))) 1 (by kernel_rfl) (happ (hp rfl trivial) (happ (oq_ok (by decide) pa pb B1 List.mem_cons_self hn1) (happ (hp (er_t e1) trivial) (happ (oq_ok (by decide) pa pb B2 (List.mem_cons_of_mem _ List.mem_cons_self) hn2) (happ (hp (er_t e2) trivial) (hp (by decide : ¬ (_ : Int) < _) trivial)))))) ha (by rw [g_t e1, g_t e2]; exact sum_e (acc_1 e2 (eqP_trans K2.F (ptv_out K2 _) (acc_1 e1 acc_0)))) rfl
set_option maxRecDepth 100000 in
theorem qSum3 (A A' : Option Addr) (c c' : Nat) (A1 : Option Addr) (n1 c1 : Nat) (l1 : List Int) (B1 : Nat) (x1 : List Int) (b1 : Bool) (hn1 : n1 ≤ 10000) (hw1 : Words l1) (hx1 : Nm 24 x1) (A2 : Option Addr) (n2 c2 : Nat) (l2 : List Int) (B2 : Nat) (x2 : List Int) (b2 : Bool) (hn2 : n2 ≤ 10000) (hw2 : Words l2) (hx2 : Nm 24 x2) (A3 : Option Addr) (n3 c3 : Nat) (l3 : List Int) (B3 : Nat) (x3 : List Int) (b3 : Bool) (hn3 : n3 ≤ 10000) (hw3 : Words l3) (hx3 : Nm 24 x3) (w : World) (hG : GS (GR GlobD [(A, krow [(A1, n1, c1, l1), (A2, n2, c2, l2), (A3, n3, c3, l3)]), (A', prow [(x1, b1), (x2, b2), (x3, b3)])]) [(A1, n1, l1, B1), (A2, n2, l2, B2), (A3, n3, l3, B3)] w) : Calls Tryd.prog 25 #[.slice A 3 c, .slice A' 3 c'] w fun e w' => e = .returned ((sumA (sumG none [l1, l2, l3] [(x1, b1), (x2, b2), (x3, b3)])).den []) ∧ RowKit.Below w.heap.size w w' := by
  let K : Row := krow [(A1, n1, c1, l1), (A2, n2, c2, l2), (A3, n3, c3, l3)]
  let P : Row := prow [(x1, b1), (x2, b2), (x3, b3)]
  let Q : SR := [(A, K), (A', P)]
  let T : SS := [(A1, n1, l1, B1), (A2, n2, l2, B2), (A3, n3, l3, B3)]
  have hw : ∀ s ∈ T, Words s.2.2.1 := List.forall_mem_cons.2 ⟨hw1, List.forall_mem_cons.2 ⟨hw2, List.forall_mem_cons.2 ⟨hw3, fun _ h => by cases h⟩⟩⟩
  have hr : ∀ s ∈ Q, Ok s.2 := List.forall_mem_cons.2 ⟨⟨trivial, ⟨trivial, ⟨trivial, trivial⟩⟩⟩, List.forall_mem_cons.2 ⟨⟨hx1, trivial, ⟨hx2, trivial, ⟨hx3, trivial, trivial⟩⟩⟩, fun _ h => by cases h⟩⟩
  have ha : ∀ v ∈ [AV.xr A 3 c K, .xr A' 3 c' P], v.Ok 0 := List.forall_mem_cons.2 ⟨trivial, List.forall_mem_cons.2 ⟨trivial, fun _ h => by cases h⟩⟩
  have pa : RS Q A K ∧ 0 < sz K := ⟨List.mem_cons_self, Nat.le_of_ble_eq_true rfl⟩
  have pb : RS Q A' P ∧ 0 < sz P := ⟨List.mem_cons_of_mem _ List.mem_cons_self, Nat.le_of_ble_eq_true rfl⟩
  cases e1 : on_ x1 b1
  · exact fn_outR (N := 9) X6_ok GlobD.keep Tryd.func25 T Q hw hr hG (args := [.xr A 3 c K, .xr A' 3 c' P]) (q := [true, true, false]) (v := (.tup [.agg [.nums 24 (List.replicate 24 0), .nm (.bl false)], .num .i64 (er_ x1 b1)])) (obs := [qb true (((3 : Nat) : Int) = ((3 : Nat) : Int))] ++ (oq 3 0 Q T A A' K P A1 n1 l1 ++ ([qb false (er_ x1 b1 = 0)]))) 1 (by kernel_rfl) (happ (hp rfl trivial) (happ (oq_ok (by decide) pa pb B1 List.mem_cons_self hn1) (hp (er_f e1) trivial))) ha (by rw [g_f e1]; exact er_v e1) rfl
  · skip
    cases e2 : on_ x2 b2
    · exact fn_outR (N := 9) X6_ok GlobD.keep Tryd.func25 T Q hw hr hG (args := [.xr A 3 c K, .xr A' 3 c' P]) (q := [true, true, true, true, false]) (v := (.tup [.agg [.nums 24 (List.replicate 24 0), .nm (.bl false)], .num .i64 (er_ x2 b2)])) (obs := [qb true (((3 : Nat) : Int) = ((3 : Nat) : Int))] ++ (oq 3 0 Q T A A' K P A1 n1 l1 ++ ([qb true (er_ x1 b1 = 0)] ++ (oq 3 1 Q T A A' K P A2 n2 l2 ++ ([qb false (er_ x2 b2 = 0)]))))) 1 (by kernel_rfl) (happ (hp rfl trivial) (happ (oq_ok (by decide) pa pb B1 List.mem_cons_self hn1) (happ (hp (er_t e1) trivial) (happ (oq_ok (by decide) pa pb B2 (List.mem_cons_of_mem _ List.mem_cons_self) hn2) (hp (er_f e2) trivial))))) ha (by rw [g_t e1, g_f e2]; exact er_v e2) rfl
    · skip
      cases e3 : on_ x3 b3
      · exact fn_outR (N := 9) X6_ok GlobD.keep Tryd.func25 T Q hw hr hG (args := [.xr A 3 c K, .xr A' 3 c' P]) (q := [true, true, true, true, true, true, false]) (v := (.tup [.agg [.nums 24 (List.replicate 24 0), .nm (.bl false)], .num .i64 (er_ x3 b3)])) (obs := [qb true (((3 : Nat) : Int) = ((3 : Nat) : Int))] ++ (oq 3 0 Q T A A' K P A1 n1 l1 ++ ([qb true (er_ x1 b1 = 0)] ++ (oq 3 1 Q T A A' K P A2 n2 l2 ++ ([qb true (er_ x2 b2 = 0)] ++ (oq 3 2 Q T A A' K P A3 n3 l3 ++ ([qb false (er_ x3 b3 = 0)]))))))) 1 (by kernel_rfl) (happ (hp rfl trivial) (happ (oq_ok (by decide) pa pb B1 List.mem_cons_self hn1) (happ (hp (er_t e1) trivial) (happ (oq_ok (by decide) pa pb B2 (List.mem_cons_of_mem _ List.mem_cons_self) hn2) (happ (hp (er_t e2) trivial) (happ (oq_ok (by decide) pa pb B3 (List.mem_cons_of_mem _ (List.mem_cons_of_mem _ List.mem_cons_self)) hn3) (hp (er_f e3) trivial))))))) ha (by rw [g_t e1, g_t e2, g_f e3]; exact er_v e3) rfl
      · skip
        exact fn_outR (N := 9) X6_ok GlobD.keep Tryd.func25 T Q hw hr hG (args := [.xr A 3 c K, .xr A' 3 c' P]) (q := [true, true, true, true, true, true, true, false]) (v := (sumA (addP K2.F (vo_ (addP K2.F (vo_ (addP K2.F (z_) (vo_ (mo_ l1 x1 b1)))) (vo_ (mo_ l2 x2 b2)))) (vo_ (mo_ l3 x3 b3)), 0))) (obs := [qb true (((3 : Nat) : Int) = ((3 : Nat) : Int))] ++ (oq 3 0 Q T A A' K P A1 n1 l1 ++ ([qb true (er_ x1 b1 = 0)] ++ (oq 3 1 Q T A A' K P A2 n2 l2 ++ ([qb true (er_ x2 b2 = 0)] ++ (oq 3 2 Q T A A' K P A3 n3 l3 ++ ([qb true (er_ x3 b3 = 0)] ++ ([qb false ((3 : Int) < ((3 : Nat) : Int))])))))))) 1 (by kernel_rfl) (happ (hp rfl trivial) (happ (oq_ok (by decide) pa pb B1 List.mem_cons_self hn1) (happ (hp (er_t e1) trivial) (happ (oq_ok (by decide) pa pb B2 (List.mem_cons_of_mem _ List.mem_cons_self) hn2) (happ (hp (er_t e2) trivial) (happ (oq_ok (by decide) pa pb B3 (List.mem_cons_of_mem _ (List.mem_cons_of_mem _ List.mem_cons_self)) hn3) (happ (hp (er_t e3) trivial) (hp (by decide : ¬ (_ : Int) < _) trivial)))))))) ha (by rw [g_t e1, g_t e2, g_t e3]; exact sum_e (acc_1 e3 (eqP_trans K2.F (ptv_out K2 _) (acc_1 e2 (eqP_trans K2.F (ptv_out K2 _) (acc_1 e1 acc_0)))))) rfl
abbrev preS : List AA → List Ob
  | [.rows n1 r1, .rows n2 r2] => [∃ ks, r1 = krow ks ∧ ks.length = n1 ∧ n1 ≤ 3 ∧ ∀ k ∈ ks, k.2.1 ≤ 10000, ∃ ps, r2 = prow ps ∧ ps.length = n2 ∧ n2 ≤ 3]
  | _ => []
def sumR (n1 : Nat) (r1 : Row) (n2 : Nat) (r2 : Row) : Pt Fp2.G × Int := if n1 = n2 then sumG none (kOf r1) (pOf r2) else (some (K2.F.int 0, K2.F.int 0), 1)
def oS : List AA → AV
  | [.rows n1 r1, .rows n2 r2] => sumA (sumR n1 r1 n2 r2)
  | _ => .unk
theorem sumA_ok (t : Pt Fp2.G × Int) (n : Nat) : (sumA t).Ok n := ⟨⟨nm_ptW K2 _, trivial, trivial⟩, trivial, trivial⟩
set_option maxRecDepth 100000 in
theorem qSumN (A A' : Option Addr) (c c' n m : Nat) (r r' : Row) (hnm : ¬ n = m) (w : World) (hG : GlobD w) : Calls Tryd.prog 25 #[.slice A n c, .slice A' m c'] w fun e w' => e = .returned ((sumA (some (K2.F.int 0, K2.F.int 0), 1)).den []) ∧ RowKit.Below w.heap.size w w' :=
  fn_outR (N := 9) X6_ok GlobD.keep Tryd.func25 [] [] (fun s hs => by cases hs) (fun s hs => by cases hs) ⟨⟨hG, fun s hs => by cases hs⟩, fun s hs => by cases hs⟩ (args := [.xr A n c r, .xr A' m c' r']) (q := [false]) (v := .tup [.agg [.nums 24 (List.replicate 24 0), .nm (.bl false)], .num .i64 1]) (obs := [qb false ((n : Int) = (m : Int))]) 1 (by kernel_rfl) (hp (show ¬ ((n : Int) = m) by omega) trivial) (fun v hv => by
      simp only [List.mem_cons, List.not_mem_nil, or_false] at hv
      rcases hv with rfl | rfl <;> trivial) (by rw [sumA, zz]; rfl) rfl
theorem qSum : ConG Tryd.prog GlobD 25 [.rows, .rows] preS oS := by
  intro l hl hp
  match l, hl, hp with
  | [.rows n1 r1, .rows n2 r2], ⟨⟨ok1, w1⟩, ⟨ok2, w2⟩, _⟩, ⟨⟨ks, e1, k2, k3, k4⟩, ⟨ps, e2, p2, p3⟩, _⟩ =>
    refine ⟨sumA_ok _, fun gs => rfl, fun w hG vs hv => ?_⟩
    match vs, hv with
    | [v, u], ⟨⟨A, c, hv, d1, d2⟩, ⟨A', c', hu, d3, d4⟩, _⟩ =>
      obtain rfl := hv
      obtain rfl := hu
      show Calls _ _ _ _ fun e w' => e = .returned ((sumA (sumR n1 r1 n2 r2)).den []) ∧ _
      by_cases hnm : n1 = n2
      · rw [sumR, if_pos hnm]
        subst hnm e1 e2
        match ks, ps, k2, p2 with
        | [], [], k2, p2 =>
          obtain rfl := k2
          exact qSum0 A A' c c'  w ⟨⟨hG, fun s hs => by
            simp only [List.mem_cons, List.not_mem_nil, or_false] at hs
            rcases hs with rfl | rfl
            · exact d1
            · exact d3⟩, fun s hs => by
            simp only [List.mem_cons, List.not_mem_nil, or_false] at hs
            ⟩
        | [(A1, n1, c1, l1)], [(x1, b1)], k2, p2 =>
          obtain rfl := k2
          obtain ⟨B1, hB1⟩ := d2 (A1, n1, l1) (List.mem_cons_self)
          have hw1 : Words l1 := w1 (A1, n1, l1) (List.mem_cons_self)
          have hn1 : n1 ≤ 10000 := k4 (A1, n1, c1, l1) (List.mem_cons_self)
          have hx1 : Nm 24 x1 := ok2.1
          exact qSum1 A A' c c' A1 n1 c1 l1 B1 x1 b1 hn1 hw1 hx1 w ⟨⟨hG, fun s hs => by
            simp only [List.mem_cons, List.not_mem_nil, or_false] at hs
            rcases hs with rfl | rfl
            · exact d1
            · exact d3⟩, fun s hs => by
            simp only [List.mem_cons, List.not_mem_nil, or_false] at hs
            subst hs
            exact hB1⟩
        | [(A1, n1, c1, l1), (A2, n2, c2, l2)], [(x1, b1), (x2, b2)], k2, p2 =>
          obtain rfl := k2
          obtain ⟨B1, hB1⟩ := d2 (A1, n1, l1) (List.mem_cons_self)
          have hw1 : Words l1 := w1 (A1, n1, l1) (List.mem_cons_self)
          have hn1 : n1 ≤ 10000 := k4 (A1, n1, c1, l1) (List.mem_cons_self)
          have hx1 : Nm 24 x1 := ok2.1
          obtain ⟨B2, hB2⟩ := d2 (A2, n2, l2) (List.mem_cons_of_mem _ (List.mem_cons_self))
          have hw2 : Words l2 := w1 (A2, n2, l2) (List.mem_cons_of_mem _ (List.mem_cons_self))
          have hn2 : n2 ≤ 10000 := k4 (A2, n2, c2, l2) (List.mem_cons_of_mem _ (List.mem_cons_self))
          have hx2 : Nm 24 x2 := ok2.2.2.1
          exact qSum2 A A' c c' A1 n1 c1 l1 B1 x1 b1 hn1 hw1 hx1 A2 n2 c2 l2 B2 x2 b2 hn2 hw2 hx2 w ⟨⟨hG, fun s hs => by
            simp only [List.mem_cons, List.not_mem_nil, or_false] at hs
            rcases hs with rfl | rfl
            · exact d1
            · exact d3⟩, fun s hs => by
            simp only [List.mem_cons, List.not_mem_nil, or_false] at hs
            rcases hs with rfl | rfl
            · exact hB1
            · exact hB2⟩
        | [(A1, n1, c1, l1), (A2, n2, c2, l2), (A3, n3, c3, l3)], [(x1, b1), (x2, b2), (x3, b3)], k2, p2 =>
          obtain rfl := k2
          obtain ⟨B1, hB1⟩ := d2 (A1, n1, l1) (List.mem_cons_self)
          have hw1 : Words l1 := w1 (A1, n1, l1) (List.mem_cons_self)
          have hn1 : n1 ≤ 10000 := k4 (A1, n1, c1, l1) (List.mem_cons_self)
          have hx1 : Nm 24 x1 := ok2.1
          obtain ⟨B2, hB2⟩ := d2 (A2, n2, l2) (List.mem_cons_of_mem _ (List.mem_cons_self))
          have hw2 : Words l2 := w1 (A2, n2, l2) (List.mem_cons_of_mem _ (List.mem_cons_self))
          have hn2 : n2 ≤ 10000 := k4 (A2, n2, c2, l2) (List.mem_cons_of_mem _ (List.mem_cons_self))
          have hx2 : Nm 24 x2 := ok2.2.2.1
          obtain ⟨B3, hB3⟩ := d2 (A3, n3, l3) (List.mem_cons_of_mem _ (List.mem_cons_of_mem _ (List.mem_cons_self)))
          have hw3 : Words l3 := w1 (A3, n3, l3) (List.mem_cons_of_mem _ (List.mem_cons_of_mem _ (List.mem_cons_self)))
          have hn3 : n3 ≤ 10000 := k4 (A3, n3, c3, l3) (List.mem_cons_of_mem _ (List.mem_cons_of_mem _ (List.mem_cons_self)))
          have hx3 : Nm 24 x3 := ok2.2.2.2.2.1
          exact qSum3 A A' c c' A1 n1 c1 l1 B1 x1 b1 hn1 hw1 hx1 A2 n2 c2 l2 B2 x2 b2 hn2 hw2 hx2 A3 n3 c3 l3 B3 x3 b3 hn3 hw3 hx3 w ⟨⟨hG, fun s hs => by
            simp only [List.mem_cons, List.not_mem_nil, or_false] at hs
            rcases hs with rfl | rfl
            · exact d1
            · exact d3⟩, fun s hs => by
            simp only [List.mem_cons, List.not_mem_nil, or_false] at hs
            rcases hs with rfl | rfl | rfl
            · exact hB1
            · exact hB2
            · exact hB3⟩
        | _ :: _ :: _ :: _ :: _, _, k2, _ => exact absurd k3 (by simp only [List.length_cons] at k2; omega)
        | [], _ :: _, k2, p2 => exact absurd (k2.trans p2.symm) (by simp)
        | [_], [], k2, p2 => exact absurd (k2.trans p2.symm) (by simp)
        | [_], _ :: _ :: _, k2, p2 => exact absurd (k2.trans p2.symm) (by simp)
        | [_, _], [], k2, p2 => exact absurd (k2.trans p2.symm) (by simp)
        | [_, _], [_], k2, p2 => exact absurd (k2.trans p2.symm) (by simp)
        | [_, _], _ :: _ :: _ :: _, k2, p2 => exact absurd (k2.trans p2.symm) (by simp)
        | [_, _, _], [], k2, p2 => exact absurd (k2.trans p2.symm) (by simp)
        | [_, _, _], [_], k2, p2 => exact absurd (k2.trans p2.symm) (by simp)
        | [_, _, _], [_, _], k2, p2 => exact absurd (k2.trans p2.symm) (by simp)
        | [_, _, _], _ :: _ :: _ :: _ :: _, k2, p2 => exact absurd (k2.trans p2.symm) (by simp)
      · rw [sumR, if_neg hnm]
        exact qSumN A A' c c' n1 n2 r1 r2 hnm w hG
end Go.Proofs.YtajiinecicghkaaDoor.S13S
