/-
  Own text. Sums of multiples: the statement.
-/
import Derived.Test.YtajiinecicghkaaDoorS13L
import Derived.Test.YtajiinecicghkaaDoorS13S
import Derived.Test.YtajiinecicghkaaDoorS13P
namespace Go.Proofs.YtajiinecicghkaaDoor.S13M
set_option linter.unusedVariables false
set_option linter.unusedSimpArgs false
open Go Go.RowKit Go.Proofs.YtajiinecicghkaaDoor.Reg Go.Proofs.YtajiinecicghkaaDoor.Base Go.Proofs.YtajiinecicghkaaDoor.Limb Go.Proofs.YtajiinecicghkaaDoor.Sx Go.Proofs.YtajiinecicghkaaDoor.Fp Go.Proofs.YtajiinecicghkaaDoor.Fp2 Go.Proofs.YtajiinecicghkaaDoor.Ec Go.Proofs.YtajiinecicghkaaDoor.Pts Go.Proofs.YtajiinecicghkaaDoor.G2K Go.Proofs.YtajiinecicghkaaDoor.S13R Go.Proofs.YtajiinecicghkaaDoor.S13S Go.Proofs.YtajiinecicghkaaDoor.S13L

def TSS : List (FuncId × Ent2) := [(11, entG [] Pre0 (o0 (.val (.bool true)))), (24, entG [.rows, .rows] preS oS), (25, entG [.rows, .rows] preS oS)]
theorem TSS_ok : TOk2 Tryd.prog GlobD TSS := ⟨.conG Tryd.func11 rfl (by decide) awake, .conG Tryd.func24 rfl (by decide) S13P.lSum, .conG Tryd.func25 rfl (by decide) qSum, trivial⟩
def XSS : Cx := ((Cx.of [(27, 12)] (tb LN)).eqs [(29, 24)]).more TSS
theorem XSS_ok : CxOk Tryd.prog XSS GlobD := ((cx_ok (E := [(27, 12)]) LN ⟨⟨G2K.eqF, G2K.gdF⟩, trivial⟩ (by kernel_rfl)).eqs (EM := [(29, 24)]) ⟨⟨eqG, gdG⟩, trivial⟩).more TSS_ok
theorem exts_p : ∀ ps, exts (prow ps) = []
  | [] => rfl
  | (x, b) :: r => exts_p r
theorem prow_ok : ∀ {ps : List (List Int × Bool)}, (∀ p ∈ ps, Nm 24 p.1) → Ok (prow ps)
  | [], _ => trivial
  | (x, b) :: r, h => ⟨h (x, b) List.mem_cons_self, trivial, prow_ok fun p hp => h p (List.mem_cons_of_mem _ hp)⟩
def r1 (k : Nat) (I : Int) (Q : SR) (A : Option Addr) (K : Row) : List Ob := [qb true (I < (k : Int)), 0 ≤ I ∧ I < (k : Int), RS Q A K ∧ 0 < sz K, RS Q A K ∧ 0 < sz K]
theorem r1_ok {k : Nat} {I : Int} {Q : SR} {A : Option Addr} {K : Row} (h : 0 ≤ I ∧ I < (k : Int)) (p : RS Q A K ∧ 0 < sz K) : Holds (r1 k I Q A K) := ⟨h.2, h, p, p, trivial⟩
def oT (k m : Nat) (Q : SR) (T : SS) (A A' : Option Addr) (K P : Row) : List Ob := [RS Q A K, ∀ e ∈ exts K, DS T e.1 e.2.1 e.2.2, RS Q A' P, ∀ e ∈ exts P, DS T e.1 e.2.1 e.2.2, ∃ ks, K = krow ks ∧ ks.length = k ∧ k ≤ 3 ∧ ∀ k ∈ ks, k.2.1 ≤ 10000, ∃ qs, P = prow qs ∧ qs.length = m ∧ m ≤ 3]
theorem oT_ok {k m : Nat} {T : SS} {A A' : Option Addr} {K : Row} (hD : ∀ e ∈ exts K, DS T e.1 e.2.1 e.2.2) (ks : List (Option Addr × Nat × Nat × List Int)) (hk : ∀ k ∈ ks, k.2.1 ≤ 10000) (e : K = krow ks ∧ ks.length = k) (h3 : k ≤ 3) (ps : List (List Int × Bool)) (hm : ps.length = m) (hm3 : m ≤ 3) : Holds (oT k m [(A, K), (A', prow ps)] T A A' K (prow ps)) :=
  ⟨List.mem_cons_self, hD, List.mem_cons_of_mem _ List.mem_cons_self, (fun (e : Option Addr × Nat × List Int) he => by rw [exts_p] at he; cases he), ⟨ks, e.1, e.2, h3, hk⟩, ⟨ps, rfl, hm, hm3⟩, trivial⟩
set_option maxRecDepth 100000 in
theorem sums0 (A A' : Option Addr) (c c' m : Nat) (ps : List (List Int × Bool)) (hq : ∀ p ∈ ps, Nm 24 p.1) (hm : ps.length = m) (hm3 : m ≤ 3)  (w : World) (hG : GS (GR GlobD [(A, krow []), (A', prow ps)]) [] w) : Calls Tryd.prog 6 #[.slice A 0 c, .slice A' m c'] w fun e w' => e = .returned (.bool true) ∧ RowKit.Below w.heap.size w w' := by
  let K : Row := krow []
  let P : Row := prow ps
  let Q : SR := [(A, K), (A', P)]
  let T : SS := []
  have hw : ∀ s ∈ T, Words s.2.2.1 := fun s hs => by have hs : s ∈ ([] : SS) := hs; cases hs
  have hr : ∀ s ∈ Q, Ok s.2 := List.forall_mem_cons.2 ⟨trivial, List.forall_mem_cons.2 ⟨prow_ok hq, fun _ h => by cases h⟩⟩
  have ha : ∀ v ∈ [AV.xr A 0 c K, .xr A' m c' P], v.Ok 0 := List.forall_mem_cons.2 ⟨trivial, List.forall_mem_cons.2 ⟨trivial, fun _ h => by cases h⟩⟩
  have hm4 : ¬ (3 : Int) < (m : Int) := by omega
  have hD : ∀ e ∈ exts K, DS T e.1 e.2.1 e.2.2 := fun e he => by have he : e ∈ exts (krow []) := he; cases he
  have hk : ∀ k ∈ ([] : List (Option Addr × Nat × Nat × List Int)), k.2.1 ≤ 10000 := fun _ h => by cases h
  have ht : Holds (oT 0 m Q T A A' K P) := oT_ok (k := 0) hD [] hk ⟨rfl, rfl⟩ (by decide) ps hm hm3
  exact fn_outR (N := 9) XSS_ok GlobD.keep Tryd.func6 T Q hw hr hG (args := [.xr A 0 c K, .xr A' m c' P]) (q := [false, false, false, true, true]) (v := .bl true) (obs := [qb false ((3 : Int) < ((0 : Nat) : Int)), qb false ((3 : Int) < (m : Int))] ++ ([qb false ((0 : Int) < ((0 : Nat) : Int))] ++ (oT 0 m Q T A A' K P ++ (oT 0 m Q T A A' K P ++ ([qb true (ptW K2 (sumR 0 K m P).1 = ptW K2 (sumR 0 K m P).1 ∧ ptB (sumR 0 K m P).1 = ptB (sumR 0 K m P).1), qb true ((sumR 0 K m P).2 = (sumR 0 K m P).2)]))))) 1 (by kernel_rfl) (happ (hp (by decide : ¬ (3 : Int) < _) (hp hm4 trivial)) (happ (hp (by decide : ¬ (_ : Int) < _) trivial) (happ (ht) (happ (ht) (hp ⟨rfl, rfl⟩ (hp rfl trivial)))))) ha rfl rfl
set_option maxRecDepth 100000 in
theorem sums1 (A A' : Option Addr) (c c' m : Nat) (ps : List (List Int × Bool)) (hq : ∀ p ∈ ps, Nm 24 p.1) (hm : ps.length = m) (hm3 : m ≤ 3) (A1 : Option Addr) (n1 c1 : Nat) (l1 : List Int) (B1 : Nat) (hw1 : Words l1) (w : World) (hG : GS (GR GlobD [(A, krow [(A1, n1, c1, l1)]), (A', prow ps)]) [(A1, n1, l1, B1)] w) : Calls Tryd.prog 6 #[.slice A 1 c, .slice A' m c'] w fun e w' => e = .returned (.bool true) ∧ RowKit.Below w.heap.size w w' := by
  let K : Row := krow [(A1, n1, c1, l1)]
  let P : Row := prow ps
  let Q : SR := [(A, K), (A', P)]
  let T : SS := [(A1, n1, l1, B1)]
  have hw : ∀ s ∈ T, Words s.2.2.1 := List.forall_mem_cons.2 ⟨hw1, fun _ h => by cases h⟩
  have hr : ∀ s ∈ Q, Ok s.2 := List.forall_mem_cons.2 ⟨⟨trivial, trivial⟩, List.forall_mem_cons.2 ⟨prow_ok hq, fun _ h => by cases h⟩⟩
  have ha : ∀ v ∈ [AV.xr A 1 c K, .xr A' m c' P], v.Ok 0 := List.forall_mem_cons.2 ⟨trivial, List.forall_mem_cons.2 ⟨trivial, fun _ h => by cases h⟩⟩
  have hm4 : ¬ (3 : Int) < (m : Int) := by omega
  have pa : RS Q A K ∧ 0 < sz K := ⟨List.mem_cons_self, Nat.le_of_ble_eq_true rfl⟩
  have hD : ∀ e ∈ exts K, DS T e.1 e.2.1 e.2.2 := List.forall_mem_cons.2 ⟨⟨B1, List.mem_cons_self⟩, fun _ h => by cases h⟩
  by_cases g1 : 1 < n1
  · exact fn_outR (N := 9) XSS_ok GlobD.keep Tryd.func6 T Q hw hr hG (args := [.xr A 1 c K, .xr A' m c' P]) (q := [false, false, true, true]) (v := .bl true) (obs := [qb false ((3 : Int) < ((1 : Nat) : Int)), qb false ((3 : Int) < (m : Int))] ++ (r1 1 0 Q A K ++ ([qb true ((1 : Int) < (n1 : Int))]))) 1 (by kernel_rfl) (happ (hp (by decide : ¬ (3 : Int) < _) (hp hm4 trivial)) (happ (r1_ok (by decide) pa) (hp (by omega : (1 : Int) < (n1 : Int)) trivial))) ha rfl rfl
  · skip
    have hk : ∀ k ∈ ([(A1, n1, c1, l1)] : List (Option Addr × Nat × Nat × List Int)), k.2.1 ≤ 10000 := List.forall_mem_cons.2 ⟨(by omega : n1 ≤ 10000), fun _ h => by cases h⟩
    have ht : Holds (oT 1 m Q T A A' K P) := oT_ok (k := 1) hD [(A1, n1, c1, l1)] hk ⟨rfl, rfl⟩ (by decide) ps hm hm3
    exact fn_outR (N := 9) XSS_ok GlobD.keep Tryd.func6 T Q hw hr hG (args := [.xr A 1 c K, .xr A' m c' P]) (q := [false, false, true, false, false, true, true]) (v := .bl true) (obs := [qb false ((3 : Int) < ((1 : Nat) : Int)), qb false ((3 : Int) < (m : Int))] ++ (r1 1 0 Q A K ++ ([qb false ((1 : Int) < (n1 : Int))] ++ ([qb false ((1 : Int) < ((1 : Nat) : Int))] ++ (oT 1 m Q T A A' K P ++ (oT 1 m Q T A A' K P ++ ([qb true (ptW K2 (sumR 1 K m P).1 = ptW K2 (sumR 1 K m P).1 ∧ ptB (sumR 1 K m P).1 = ptB (sumR 1 K m P).1), qb true ((sumR 1 K m P).2 = (sumR 1 K m P).2)]))))))) 1 (by kernel_rfl) (happ (hp (by decide : ¬ (3 : Int) < _) (hp hm4 trivial)) (happ (r1_ok (by decide) pa) (happ (hp (by omega : ¬ (1 : Int) < (n1 : Int)) trivial) (happ (hp (by decide : ¬ (_ : Int) < _) trivial) (happ (ht) (happ (ht) (hp ⟨rfl, rfl⟩ (hp rfl trivial)))))))) ha rfl rfl
set_option maxRecDepth 100000 in
theorem sums2 (A A' : Option Addr) (c c' m : Nat) (ps : List (List Int × Bool)) (hq : ∀ p ∈ ps, Nm 24 p.1) (hm : ps.length = m) (hm3 : m ≤ 3) (A1 : Option Addr) (n1 c1 : Nat) (l1 : List Int) (B1 : Nat) (hw1 : Words l1) (A2 : Option Addr) (n2 c2 : Nat) (l2 : List Int) (B2 : Nat) (hw2 : Words l2) (w : World) (hG : GS (GR GlobD [(A, krow [(A1, n1, c1, l1), (A2, n2, c2, l2)]), (A', prow ps)]) [(A1, n1, l1, B1), (A2, n2, l2, B2)] w) : Calls Tryd.prog 6 #[.slice A 2 c, .slice A' m c'] w fun e w' => e = .returned (.bool true) ∧ RowKit.Below w.heap.size w w' := by
  let K : Row := krow [(A1, n1, c1, l1), (A2, n2, c2, l2)]
  let P : Row := prow ps
  let Q : SR := [(A, K), (A', P)]
  let T : SS := [(A1, n1, l1, B1), (A2, n2, l2, B2)]
  have hw : ∀ s ∈ T, Words s.2.2.1 := List.forall_mem_cons.2 ⟨hw1, List.forall_mem_cons.2 ⟨hw2, fun _ h => by cases h⟩⟩
  have hr : ∀ s ∈ Q, Ok s.2 := List.forall_mem_cons.2 ⟨⟨trivial, ⟨trivial, trivial⟩⟩, List.forall_mem_cons.2 ⟨prow_ok hq, fun _ h => by cases h⟩⟩
  have ha : ∀ v ∈ [AV.xr A 2 c K, .xr A' m c' P], v.Ok 0 := List.forall_mem_cons.2 ⟨trivial, List.forall_mem_cons.2 ⟨trivial, fun _ h => by cases h⟩⟩
  have hm4 : ¬ (3 : Int) < (m : Int) := by omega
  have pa : RS Q A K ∧ 0 < sz K := ⟨List.mem_cons_self, Nat.le_of_ble_eq_true rfl⟩
  have hD : ∀ e ∈ exts K, DS T e.1 e.2.1 e.2.2 := List.forall_mem_cons.2 ⟨⟨B1, List.mem_cons_self⟩, List.forall_mem_cons.2 ⟨⟨B2, List.mem_cons_of_mem _ (List.mem_cons_self)⟩, fun _ h => by cases h⟩⟩
  by_cases g1 : 1 < n1
  · exact fn_outR (N := 9) XSS_ok GlobD.keep Tryd.func6 T Q hw hr hG (args := [.xr A 2 c K, .xr A' m c' P]) (q := [false, false, true, true]) (v := .bl true) (obs := [qb false ((3 : Int) < ((2 : Nat) : Int)), qb false ((3 : Int) < (m : Int))] ++ (r1 2 0 Q A K ++ ([qb true ((1 : Int) < (n1 : Int))]))) 1 (by kernel_rfl) (happ (hp (by decide : ¬ (3 : Int) < _) (hp hm4 trivial)) (happ (r1_ok (by decide) pa) (hp (by omega : (1 : Int) < (n1 : Int)) trivial))) ha rfl rfl
  · skip
    by_cases g2 : 1 < n2
    · exact fn_outR (N := 9) XSS_ok GlobD.keep Tryd.func6 T Q hw hr hG (args := [.xr A 2 c K, .xr A' m c' P]) (q := [false, false, true, false, true, true]) (v := .bl true) (obs := [qb false ((3 : Int) < ((2 : Nat) : Int)), qb false ((3 : Int) < (m : Int))] ++ (r1 2 0 Q A K ++ ([qb false ((1 : Int) < (n1 : Int))] ++ (r1 2 1 Q A K ++ ([qb true ((1 : Int) < (n2 : Int))]))))) 1 (by kernel_rfl) (happ (hp (by decide : ¬ (3 : Int) < _) (hp hm4 trivial)) (happ (r1_ok (by decide) pa) (happ (hp (by omega : ¬ (1 : Int) < (n1 : Int)) trivial) (happ (r1_ok (by decide) pa) (hp (by omega : (1 : Int) < (n2 : Int)) trivial))))) ha rfl rfl
    · skip
      have hk : ∀ k ∈ ([(A1, n1, c1, l1), (A2, n2, c2, l2)] : List (Option Addr × Nat × Nat × List Int)), k.2.1 ≤ 10000 := List.forall_mem_cons.2 ⟨(by omega : n1 ≤ 10000), List.forall_mem_cons.2 ⟨(by omega : n2 ≤ 10000), fun _ h => by cases h⟩⟩
      have ht : Holds (oT 2 m Q T A A' K P) := oT_ok (k := 2) hD [(A1, n1, c1, l1), (A2, n2, c2, l2)] hk ⟨rfl, rfl⟩ (by decide) ps hm hm3
      exact fn_outR (N := 9) XSS_ok GlobD.keep Tryd.func6 T Q hw hr hG (args := [.xr A 2 c K, .xr A' m c' P]) (q := [false, false, true, false, true, false, false, true, true]) (v := .bl true) (obs := [qb false ((3 : Int) < ((2 : Nat) : Int)), qb false ((3 : Int) < (m : Int))] ++ (r1 2 0 Q A K ++ ([qb false ((1 : Int) < (n1 : Int))] ++ (r1 2 1 Q A K ++ ([qb false ((1 : Int) < (n2 : Int))] ++ ([qb false ((2 : Int) < ((2 : Nat) : Int))] ++ (oT 2 m Q T A A' K P ++ (oT 2 m Q T A A' K P ++ ([qb true (ptW K2 (sumR 2 K m P).1 = ptW K2 (sumR 2 K m P).1 ∧ ptB (sumR 2 K m P).1 = ptB (sumR 2 K m P).1), qb true ((sumR 2 K m P).2 = (sumR 2 K m P).2)]))))))))) 1 (by kernel_rfl) (happ (hp (by decide : ¬ (3 : Int) < _) (hp hm4 trivial)) (happ (r1_ok (by decide) pa) (happ (hp (by omega : ¬ (1 : Int) < (n1 : Int)) trivial) (happ (r1_ok (by decide) pa) (happ (hp (by omega : ¬ (1 : Int) < (n2 : Int)) trivial) (happ (hp (by decide : ¬ (_ : Int) < _) trivial) (happ (ht) (happ (ht) (hp ⟨rfl, rfl⟩ (hp rfl trivial)))))))))) ha rfl rfl
set_option maxRecDepth 100000 in
theorem sums3 (A A' : Option Addr) (c c' m : Nat) (ps : List (List Int × Bool)) (hq : ∀ p ∈ ps, Nm 24 p.1) (hm : ps.length = m) (hm3 : m ≤ 3) (A1 : Option Addr) (n1 c1 : Nat) (l1 : List Int) (B1 : Nat) (hw1 : Words l1) (A2 : Option Addr) (n2 c2 : Nat) (l2 : List Int) (B2 : Nat) (hw2 : Words l2) (A3 : Option Addr) (n3 c3 : Nat) (l3 : List Int) (B3 : Nat) (hw3 : Words l3) (w : World) (hG : GS (GR GlobD [(A, krow [(A1, n1, c1, l1), (A2, n2, c2, l2), (A3, n3, c3, l3)]), (A', prow ps)]) [(A1, n1, l1, B1), (A2, n2, l2, B2), (A3, n3, l3, B3)] w) : Calls Tryd.prog 6 #[.slice A 3 c, .slice A' m c'] w fun e w' => e = .returned (.bool true) ∧ RowKit.Below w.heap.size w w' := by
  let K : Row := krow [(A1, n1, c1, l1), (A2, n2, c2, l2), (A3, n3, c3, l3)]
  let P : Row := prow ps
  let Q : SR := [(A, K), (A', P)]
  let T : SS := [(A1, n1, l1, B1), (A2, n2, l2, B2), (A3, n3, l3, B3)]
  have hw : ∀ s ∈ T, Words s.2.2.1 := List.forall_mem_cons.2 ⟨hw1, List.forall_mem_cons.2 ⟨hw2, List.forall_mem_cons.2 ⟨hw3, fun _ h => by cases h⟩⟩⟩
  have hr : ∀ s ∈ Q, Ok s.2 := List.forall_mem_cons.2 ⟨⟨trivial, ⟨trivial, ⟨trivial, trivial⟩⟩⟩, List.forall_mem_cons.2 ⟨prow_ok hq, fun _ h => by cases h⟩⟩
  have ha : ∀ v ∈ [AV.xr A 3 c K, .xr A' m c' P], v.Ok 0 := List.forall_mem_cons.2 ⟨trivial, List.forall_mem_cons.2 ⟨trivial, fun _ h => by cases h⟩⟩
  have hm4 : ¬ (3 : Int) < (m : Int) := by omega
  have pa : RS Q A K ∧ 0 < sz K := ⟨List.mem_cons_self, Nat.le_of_ble_eq_true rfl⟩
  have hD : ∀ e ∈ exts K, DS T e.1 e.2.1 e.2.2 := List.forall_mem_cons.2 ⟨⟨B1, List.mem_cons_self⟩, List.forall_mem_cons.2 ⟨⟨B2, List.mem_cons_of_mem _ (List.mem_cons_self)⟩, List.forall_mem_cons.2 ⟨⟨B3, List.mem_cons_of_mem _ (List.mem_cons_of_mem _ (List.mem_cons_self))⟩, fun _ h => by cases h⟩⟩⟩
  by_cases g1 : 1 < n1
  · exact fn_outR (N := 9) XSS_ok GlobD.keep Tryd.func6 T Q hw hr hG (args := [.xr A 3 c K, .xr A' m c' P]) (q := [false, false, true, true]) (v := .bl true) (obs := [qb false ((3 : Int) < ((3 : Nat) : Int)), qb false ((3 : Int) < (m : Int))] ++ (r1 3 0 Q A K ++ ([qb true ((1 : Int) < (n1 : Int))]))) 1 (by kernel_rfl) (happ (hp (by decide : ¬ (3 : Int) < _) (hp hm4 trivial)) (happ (r1_ok (by decide) pa) (hp (by omega : (1 : Int) < (n1 : Int)) trivial))) ha rfl rfl
  · skip
    by_cases g2 : 1 < n2
    · exact fn_outR (N := 9) XSS_ok GlobD.keep Tryd.func6 T Q hw hr hG (args := [.xr A 3 c K, .xr A' m c' P]) (q := [false, false, true, false, true, true]) (v := .bl true) (obs := [qb false ((3 : Int) < ((3 : Nat) : Int)), qb false ((3 : Int) < (m : Int))] ++ (r1 3 0 Q A K ++ ([qb false ((1 : Int) < (n1 : Int))] ++ (r1 3 1 Q A K ++ ([qb true ((1 : Int) < (n2 : Int))]))))) 1 (by kernel_rfl) (happ (hp (by decide : ¬ (3 : Int) < _) (hp hm4 trivial)) (happ (r1_ok (by decide) pa) (happ (hp (by omega : ¬ (1 : Int) < (n1 : Int)) trivial) (happ (r1_ok (by decide) pa) (hp (by omega : (1 : Int) < (n2 : Int)) trivial))))) ha rfl rfl
    · skip
      by_cases g3 : 1 < n3
      · exact fn_outR (N := 9) XSS_ok GlobD.keep Tryd.func6 T Q hw hr hG (args := [.xr A 3 c K, .xr A' m c' P]) (q := [false, false, true, false, true, false, true, true]) (v := .bl true) (obs := [qb false ((3 : Int) < ((3 : Nat) : Int)), qb false ((3 : Int) < (m : Int))] ++ (r1 3 0 Q A K ++ ([qb false ((1 : Int) < (n1 : Int))] ++ (r1 3 1 Q A K ++ ([qb false ((1 : Int) < (n2 : Int))] ++ (r1 3 2 Q A K ++ ([qb true ((1 : Int) < (n3 : Int))]))))))) 1 (by kernel_rfl) (happ (hp (by decide : ¬ (3 : Int) < _) (hp hm4 trivial)) (happ (r1_ok (by decide) pa) (happ (hp (by omega : ¬ (1 : Int) < (n1 : Int)) trivial) (happ (r1_ok (by decide) pa) (happ (hp (by omega : ¬ (1 : Int) < (n2 : Int)) trivial) (happ (r1_ok (by decide) pa) (hp (by omega : (1 : Int) < (n3 : Int)) trivial))))))) ha rfl rfl
      · skip
        have hk : ∀ k ∈ ([(A1, n1, c1, l1), (A2, n2, c2, l2), (A3, n3, c3, l3)] : List (Option Addr × Nat × Nat × List Int)), k.2.1 ≤ 10000 := List.forall_mem_cons.2 ⟨(by omega : n1 ≤ 10000), List.forall_mem_cons.2 ⟨(by omega : n2 ≤ 10000), List.forall_mem_cons.2 ⟨(by omega : n3 ≤ 10000), fun _ h => by cases h⟩⟩⟩
        have ht : Holds (oT 3 m Q T A A' K P) := oT_ok (k := 3) hD [(A1, n1, c1, l1), (A2, n2, c2, l2), (A3, n3, c3, l3)] hk ⟨rfl, rfl⟩ (by decide) ps hm hm3
        exact fn_outR (N := 9) XSS_ok GlobD.keep Tryd.func6 T Q hw hr hG (args := [.xr A 3 c K, .xr A' m c' P]) (q := [false, false, true, false, true, false, true, false, false, true, true]) (v := .bl true) (obs := [qb false ((3 : Int) < ((3 : Nat) : Int)), qb false ((3 : Int) < (m : Int))] ++ (r1 3 0 Q A K ++ ([qb false ((1 : Int) < (n1 : Int))] ++ (r1 3 1 Q A K ++ ([qb false ((1 : Int) < (n2 : Int))] ++ (r1 3 2 Q A K ++ ([qb false ((1 : Int) < (n3 : Int))] ++ ([qb false ((3 : Int) < ((3 : Nat) : Int))] ++ (oT 3 m Q T A A' K P ++ (oT 3 m Q T A A' K P ++ ([qb true (ptW K2 (sumR 3 K m P).1 = ptW K2 (sumR 3 K m P).1 ∧ ptB (sumR 3 K m P).1 = ptB (sumR 3 K m P).1), qb true ((sumR 3 K m P).2 = (sumR 3 K m P).2)]))))))))))) 1 (by kernel_rfl) (happ (hp (by decide : ¬ (3 : Int) < _) (hp hm4 trivial)) (happ (r1_ok (by decide) pa) (happ (hp (by omega : ¬ (1 : Int) < (n1 : Int)) trivial) (happ (r1_ok (by decide) pa) (happ (hp (by omega : ¬ (1 : Int) < (n2 : Int)) trivial) (happ (r1_ok (by decide) pa) (happ (hp (by omega : ¬ (1 : Int) < (n3 : Int)) trivial) (happ (hp (by decide : ¬ (_ : Int) < _) trivial) (happ (ht) (happ (ht) (hp ⟨rfl, rfl⟩ (hp rfl trivial)))))))))))) ha rfl rfl
set_option maxRecDepth 100000 in
theorem sums (A A' : Option Addr) (c c' n m : Nat) (ks : List (Option Addr × Nat × Nat × List Int)) (ps : List (List Int × Bool)) (hk : ks.length = n) (hm : ps.length = m) (hw : ∀ k ∈ ks, Words k.2.2.2) (hq : ∀ p ∈ ps, Nm 24 p.1) (w : World) (hG : GlobD w) (d1 : (krow ks = [] ∨ ∃ b o, A = some ⟨b, o, none⟩ ∧ ∀ j v, (den (krow ks))[j]? = some v → w.cell? ⟨b, o + j, none⟩ = some v ∧ b < w.heap.size)) (d2 : (prow ps = [] ∨ ∃ b o, A' = some ⟨b, o, none⟩ ∧ ∀ j v, (den (prow ps))[j]? = some v → w.cell? ⟨b, o + j, none⟩ = some v ∧ b < w.heap.size)) (hr : ∀ k ∈ ks, ∃ B, B ≤ w.heap.size ∧ Rd w B k.1 k.2.1 .u64 k.2.2.2) : Calls Tryd.prog 6 #[.slice A n c, .slice A' m c'] w fun e w' => e = .returned (.bool true) ∧ RowKit.Below w.heap.size w w' := by
  by_cases h1 : (3 : Int) < n
  · exact fn_outR (N := 9) XSS_ok GlobD.keep Tryd.func6 [] [] (fun s hs => by cases hs) (fun s hs => by cases hs) ⟨⟨hG, fun s hs => by cases hs⟩, fun s hs => by cases hs⟩ (args := [.xr A n c (krow ks), .xr A' m c' (prow ps)]) (q := [true]) (v := .bl true) (obs := [qb true ((3 : Int) < n)]) 1 (by kernel_rfl) (hp h1 trivial) (fun v hv => by
      simp only [List.mem_cons, List.not_mem_nil, or_false] at hv
      rcases hv with rfl | rfl <;> trivial) rfl rfl
  by_cases h2 : (3 : Int) < m
  · exact fn_outR (N := 9) XSS_ok GlobD.keep Tryd.func6 [] [] (fun s hs => by cases hs) (fun s hs => by cases hs) ⟨⟨hG, fun s hs => by cases hs⟩, fun s hs => by cases hs⟩ (args := [.xr A n c (krow ks), .xr A' m c' (prow ps)]) (q := [false, true]) (v := .bl true) (obs := [qb false ((3 : Int) < n), qb true ((3 : Int) < m)]) 1 (by kernel_rfl) (hp h1 (hp h2 trivial)) (fun v hv => by
      simp only [List.mem_cons, List.not_mem_nil, or_false] at hv
      rcases hv with rfl | rfl <;> trivial) rfl rfl
  subst hk
  match ks, h1, hw, d1, hr with
  | [], h1, hw, d1, hr =>
    exact sums0 A A' c c' m ps hq hm (by omega)  w ⟨⟨hG, fun s hs => by
      simp only [List.mem_cons, List.not_mem_nil, or_false] at hs
      rcases hs with rfl | rfl
      · exact d1
      · exact d2⟩, fun s hs => by
      simp only [List.mem_cons, List.not_mem_nil, or_false] at hs
      ⟩
  | [(A1, n1, c1, l1)], h1, hw, d1, hr =>
    obtain ⟨B1, hB1⟩ := hr (A1, n1, c1, l1) (List.mem_cons_self)
    have hw1 : Words l1 := hw (A1, n1, c1, l1) (List.mem_cons_self)
    exact sums1 A A' c c' m ps hq hm (by omega) A1 n1 c1 l1 B1 hw1 w ⟨⟨hG, fun s hs => by
      simp only [List.mem_cons, List.not_mem_nil, or_false] at hs
      rcases hs with rfl | rfl
      · exact d1
      · exact d2⟩, fun s hs => by
      simp only [List.mem_cons, List.not_mem_nil, or_false] at hs
      subst hs
      exact hB1⟩
  | [(A1, n1, c1, l1), (A2, n2, c2, l2)], h1, hw, d1, hr =>
    obtain ⟨B1, hB1⟩ := hr (A1, n1, c1, l1) (List.mem_cons_self)
    have hw1 : Words l1 := hw (A1, n1, c1, l1) (List.mem_cons_self)
    obtain ⟨B2, hB2⟩ := hr (A2, n2, c2, l2) (List.mem_cons_of_mem _ (List.mem_cons_self))
    have hw2 : Words l2 := hw (A2, n2, c2, l2) (List.mem_cons_of_mem _ (List.mem_cons_self))
    exact sums2 A A' c c' m ps hq hm (by omega) A1 n1 c1 l1 B1 hw1 A2 n2 c2 l2 B2 hw2 w ⟨⟨hG, fun s hs => by
      simp only [List.mem_cons, List.not_mem_nil, or_false] at hs
      rcases hs with rfl | rfl
      · exact d1
      · exact d2⟩, fun s hs => by
      simp only [List.mem_cons, List.not_mem_nil, or_false] at hs
      rcases hs with rfl | rfl
      · exact hB1
      · exact hB2⟩
  | [(A1, n1, c1, l1), (A2, n2, c2, l2), (A3, n3, c3, l3)], h1, hw, d1, hr =>
    obtain ⟨B1, hB1⟩ := hr (A1, n1, c1, l1) (List.mem_cons_self)
    have hw1 : Words l1 := hw (A1, n1, c1, l1) (List.mem_cons_self)
    obtain ⟨B2, hB2⟩ := hr (A2, n2, c2, l2) (List.mem_cons_of_mem _ (List.mem_cons_self))
    have hw2 : Words l2 := hw (A2, n2, c2, l2) (List.mem_cons_of_mem _ (List.mem_cons_self))
    obtain ⟨B3, hB3⟩ := hr (A3, n3, c3, l3) (List.mem_cons_of_mem _ (List.mem_cons_of_mem _ (List.mem_cons_self)))
    have hw3 : Words l3 := hw (A3, n3, c3, l3) (List.mem_cons_of_mem _ (List.mem_cons_of_mem _ (List.mem_cons_self)))
    exact sums3 A A' c c' m ps hq hm (by omega) A1 n1 c1 l1 B1 hw1 A2 n2 c2 l2 B2 hw2 A3 n3 c3 l3 B3 hw3 w ⟨⟨hG, fun s hs => by
      simp only [List.mem_cons, List.not_mem_nil, or_false] at hs
      rcases hs with rfl | rfl
      · exact d1
      · exact d2⟩, fun s hs => by
      simp only [List.mem_cons, List.not_mem_nil, or_false] at hs
      rcases hs with rfl | rfl | rfl
      · exact hB1
      · exact hB2
      · exact hB3⟩
  | _ :: _ :: _ :: _ :: _, h1, _, _, _ => exact absurd h1 (by simp only [List.length_cons]; omega)
end Go.Proofs.YtajiinecicghkaaDoor.S13M
