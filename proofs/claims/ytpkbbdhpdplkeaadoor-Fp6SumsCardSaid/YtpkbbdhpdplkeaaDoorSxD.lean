/-
  Own text. A reckoner of straight code, fourth part: comparisons, guards; operations in their order; drawn regions.
-/
import Derived.Test.YtpkbbdhpdplkeaaDoorSxC
namespace Go.Proofs.YtpkbbdhpdplkeaaDoor.Sx
set_option linter.unusedVariables false
set_option linter.unusedSimpArgs false
set_option linter.unusedSectionVars false
open Go Go.RowKit Go.Proofs.YtpkbbdhpdplkeaaDoor.Reg Go.Proofs.YtpkbbdhpdplkeaaDoor.Limb Go.Proofs.YtpkbbdhpdplkeaaDoor.Fp2
/-- A question that was met, and what its answer is said to be. -/
structure Ob where
  e : Bool
  b : Bool
def Holds : List Ob → Prop
  | [] => True
  | o :: r => o.e = o.b ∧ Holds r
theorem holds_app : ∀ {a b : List Ob}, Holds (a ++ b) → Holds a ∧ Holds b
  | [], _, h => ⟨trivial, h⟩
  | _ :: _, _, h => ⟨⟨h.1, (holds_app h.2).1⟩, (holds_app h.2).2⟩
/-- What there is: the types that are compared, the calls that are known. -/
structure Cx where
  E : List (TypeId × Nat)
  T : Tbl
def EqT (P : Program) : List (TypeId × Nat) → Prop
  | [] => True
  | (t, n) :: r => (EqOK P 10000 t n ∧ P.eqGuardType P.depth t = false) ∧ EqT P r
def eqn : List (TypeId × Nat) → TypeId → Option Nat
  | [], _ => none
  | (t, n) :: r, u => if t = u then some n else eqn r u
theorem eqn_ok {P : Program} : ∀ {E : List (TypeId × Nat)} {t n}, EqT P E → eqn E t = some n → EqOK P 10000 t n ∧ P.eqGuardType P.depth t = false
  | [], _, _, _, h => by cases h
  | (t, n) :: r, u, m, hE, h => by
    unfold eqn at h
    split at h
    · rename_i he
      subst he
      obtain rfl := Option.some.inj h
      exact hE.1
    · exact eqn_ok hE.2 h
structure CxOk (P : Program) (C : Cx) (G : World → Prop) : Prop where
  T : TOk P G C.T
  E : EqT P C.E
  mix : P.follows .mixedOrders = true
def wantA (ops : Array Oper) (sl : List AV) (o : Oper) : Option Bool :=
  match o.guard with
  | none => some true
  | some (j, b) => match (ops[j]?).bind (·.dst) with
    | some d => match sl[d]? with
      | some (.val (.bool c)) => some (c == b)
      | some (.val (.tuple _)) => some false
      | _ => none
    | none => none
def sidesOf (E : List (TypeId × Nat)) (sl : List AV) (t : TypeId) (x y : Operand) : Option (List Int × List Int) :=
  match eqn E t, ev sl x, ev sl y with
  | some n, some (.agg r), some (.agg s) => match mg r, mg s with
    | some (k, xs), some (m, ys) => if k = n ∧ m = n then some (xs, ys) else none
    | _, _ => none
  | _, _, _ => none
abbrev RR := AV × List Bool × List Ob
def stepR (P : Program) (C : Cx) (ops : Array Oper) (bl : Nat → Option Bk) (sl : List AV) (q : List Bool) (o : Oper) : Option RR :=
  match wantA ops sl o with
  | none => none
  | some false => some (.val undef, q, [])
  | some true => match evalV P C.T bl sl o.op with
    | some v => some (v, q, [])
    | none => match o.op with
    | .binOp .eql t x y _ => match sidesOf C.E sl t x y, q with
      | some (xs, ys), b :: q' => some (.val (.bool b), q', [⟨decide (xs = ys), b⟩])
      | _, _ => none
    | .binOp .neq t x y _ => match sidesOf C.E sl t x y, q with
      | some (xs, ys), b :: q' => some (.val (.bool (!b)), q', [⟨decide (xs = ys), b⟩])
      | _, _ => none
    | _ => none
def putA (sl : List AV) (d : Option Tmp) (v : AV) : List AV := match d with
  | none => sl
  | some d => sl.set d v
def rds (P : Program) (C : Cx) (ops : Array Oper) (bl : Nat → Option Bk) : List Oper → List AV → List Bool → Option (List AV × List Bool × List Ob)
  | [], sl, q => some (sl, q, [])
  | o :: l, sl, q => match stepR P C ops bl sl q o with
    | none => none
    | some (v, q1, o1) => match rds P C ops bl l (putA sl o.dst v) q1 with
      | none => none
      | some (sl2, q2, o2) => some (sl2, q2, o1 ++ o2)
section
variable {P : Program} {C : Cx} {G : World → Prop} {gs : List Nat} {sl : List AV} {a : Act} {bl : Nat → Option Bk} {u : World} {ops : Array Oper} {S : World → Prop}
theorem sl_put {d : Option Tmp} {v : AV} (h : Sl gs sl a) : Sl gs (putA sl d v) (a.put d (v.den gs)) := by
  cases d with
  | none => exact h
  | some d =>
    refine ⟨by simp [Act.put, putA, h.1], fun i u hi hu => ?_⟩
    simp only [Act.put, putA] at hi ⊢
    rw [List.getElem?_set] at hi
    rw [Array.getElem?_setIfInBounds]
    split at hi
    · rename_i hd
      subst hd
      split at hi
      · rename_i hl
        obtain rfl := Option.some.inj hi
        rw [if_pos rfl, if_pos (by rw [h.1]; exact hl)]
      · cases hi
    · rename_i hd
      rw [if_neg hd]
      exact h.2 i u hi hu
theorem sok_put {d : Option Tmp} {v : AV} {n : Nat} (h : SOk n sl) (hv : v.Ok n) : SOk n (putA sl d v) := by
  cases d with
  | none => exact h
  | some d =>
    intro x hx
    rcases List.mem_or_eq_of_mem_set hx with hx | rfl
    · exact h x hx
    · exact hv
theorem want_ok (h : Sl gs sl a) {o : Oper} {b : Bool} (hw : wantA ops sl o = some b) : Region.wanted o (yielded ops a.tmps) = b := by
  unfold wantA at hw
  unfold Region.wanted
  split at hw
  · rename_i hg
    obtain rfl := Option.some.inj hw
    rw [hg]
  · rename_i j w hg
    rw [hg]
    split at hw
    · rename_i d hd
      have ht : ∀ v, sl[d]? = some v → v ≠ .unk → a.tmps[d]? = some (v.den gs) := fun v hv hu => h.2 d v hv hu
      split at hw
      · rename_i c hc
        obtain rfl := Option.some.inj hw
        simp [yielded, hd, ht _ hc (by simp), AV.den]
      · rename_i c hc
        obtain rfl := Option.some.inj hw
        simp [yielded, hd, ht _ hc (by simp), AV.den]
      · cases hw
    · cases hw
theorem eql_at {P : Program} {a : Act} {o : Oper} {t r : TypeId} {x y : Operand} {xs ys : List Int} {n : Nat} {b : Bool} (ho : o.op = .binOp .eql t x y r) (hx : a.eval x = .agg (vals .u64 xs)) (hy : a.eval y = .agg (vals .u64 ys)) (hE : EqOK P 10000 t n) (hg : P.eqGuardType P.depth t = false)
    (hl : xs.length = n) (hl' : ys.length = n) (hb : decide (xs = ys) = b) (w : World) : o.quietAt P a (fun z => RowKit.Below w.heap.size w z) w (.bool b) := by
  have h := hE w xs ys hl hl'
  rw [hb] at h
  unfold Oper.quietAt
  simp only [execOp, ho, hx, hy]
  go_simp <;> exact ⟨rfl, rfl⟩
theorem neq_at {P : Program} {a : Act} {o : Oper} {t r : TypeId} {x y : Operand} {xs ys : List Int} {n : Nat} {b : Bool} (ho : o.op = .binOp .neq t x y r) (hx : a.eval x = .agg (vals .u64 xs)) (hy : a.eval y = .agg (vals .u64 ys)) (hE : EqOK P 10000 t n) (hg : P.eqGuardType P.depth t = false)
    (hl : xs.length = n) (hl' : ys.length = n) (hb : decide (xs = ys) = b) (w : World) : o.quietAt P a (fun z => RowKit.Below w.heap.size w z) w (.bool (!b)) := by
  have h := hE w xs ys hl hl'
  rw [hb] at h
  unfold Oper.quietAt
  simp only [execOp, ho, hx, hy]
  go_simp <;> exact ⟨rfl, rfl⟩
theorem sides_ok {P : Program} {E : List (TypeId × Nat)} (hE : EqT P E) (h : Sl gs sl a) (ho : SOk gs.length sl) {t : TypeId} {x y : Operand} {xs ys : List Int} (he : sidesOf E sl t x y = some (xs, ys)) :
    ∃ n, a.eval x = .agg (vals .u64 xs) ∧ a.eval y = .agg (vals .u64 ys) ∧ EqOK P 10000 t n ∧ P.eqGuardType P.depth t = false ∧ xs.length = n ∧ ys.length = n := by
  unfold sidesOf at he
  split at he
  · rename_i n r s h1 h2 h3
    split at he
    · rename_i k xs' m ys' h4 h5
      split at he
      · rename_i hc
        obtain ⟨e1, o1⟩ := ev_ok h ho h2
        obtain ⟨e2, o2⟩ := ev_ok h ho h3
        obtain ⟨n1, d1⟩ := mg_ok o1 h4
        obtain ⟨n2, d2⟩ := mg_ok o2 h5
        obtain ⟨g1, g2⟩ := eqn_ok hE h1
        injection he with he
        injection he with ea eb
        subst ea eb
        exact ⟨n, by rw [e1, AV.den, d1]; rfl, by rw [e2, AV.den, d2]; rfl, g1, g2, by rw [n1.len, hc.1], by rw [n2.len, hc.2]⟩
      · cases he
    · cases he
  · cases he
theorem stepR_ok (hC : CxOk P C G) (h : Sl gs sl a) (ho : SOk gs.length sl) {q q1 : List Bool} {o : Oper} {v : AV} {o1 : List Ob} (h0 : ∃ u, G u ∧ BOk gs bl u) (he : stepR P C ops bl sl q o = some (v, q1, o1)) (hH : Holds o1) :
    v.Ok gs.length ∧ ∀ S : World → Prop, (∀ u, S u → G u ∧ BOk gs bl u) → Steady P ops S o (v.den gs) a := by
  unfold stepR at he
  split at he
  · cases he
  · rename_i hw
    injection he with he
    injection he with e1 e2
    subst e1
    exact ⟨trivial, fun S hS => .inr ⟨want_ok h hw, rfl⟩⟩
  · rename_i hw
    have hwt := want_ok (a := a) h hw
    split at he
    · rename_i v' hv
      injection he with he
      injection he with e1 e2
      subst e1
      obtain ⟨ov, hq⟩ := evalV_ok hC.T h ho h0 hv
      exact ⟨ov, fun S hS => .inl ⟨hwt, fun u hu => hq u (hS u hu).1 (hS u hu).2⟩⟩
    split at he
    · rename_i t x y r hop
      split at he
      · rename_i xs ys b q' h1
        injection he with he
        injection he with e1 e2
        injection e2 with e2 e3
        subst e1 e3
        obtain ⟨n, g1, g2, g3, g4, g5, g6⟩ := sides_ok hC.E h ho h1
        exact ⟨trivial, fun S hS => .inl ⟨hwt, fun u _ => eql_at hop g1 g2 g3 g4 g5 g6 hH.1 u⟩⟩
      · cases he
    · rename_i t x y r hop
      split at he
      · rename_i xs ys b q' h1
        injection he with he
        injection he with e1 e2
        injection e2 with e2 e3
        subst e1 e3
        obtain ⟨n, g1, g2, g3, g4, g5, g6⟩ := sides_ok hC.E h ho h1
        exact ⟨trivial, fun S hS => .inl ⟨hwt, fun u _ => neq_at hop g1 g2 g3 g4 g5 g6 hH.1 u⟩⟩
      · cases he
    · cases he
theorem rds_ok (hC : CxOk P C G) (h0 : ∃ u, G u ∧ BOk gs bl u) (hS : ∀ u, S u → G u ∧ BOk gs bl u) : ∀ {l : List Oper} {sl : List AV} {q : List Bool} {a : Act} {sl2 : List AV} {q2 : List Bool} {obs : List Ob} {K : Act → Prop},
    rds P C ops bl l sl q = some (sl2, q2, obs) → Sl gs sl a → SOk gs.length sl → Holds obs → (∀ a', Sl gs sl2 a' → SOk gs.length sl2 → a'.defers = a.defers → K a') → wpTake P ops S K l a
  | [], sl, q, a, sl2, q2, obs, K, he, h, ho, hH, hK => by
    injection he with he
    injection he with e1 e2
    subst e1
    exact wpTake_nil (hK a h ho rfl)
  | o :: l, sl, q, a, sl2, q2, obs, K, he, h, ho, hH, hK => by
    unfold rds at he
    split at he
    · cases he
    · rename_i v q1 o1 h1
      split at he
      · cases he
      · rename_i sl3 q3 o3 h2
        injection he with he
        injection he with e1 e2
        injection e2 with e2 e3
        subst e1 e2 e3
        obtain ⟨ha, hbb⟩ := holds_app hH
        obtain ⟨ov, hs⟩ := stepR_ok hC h ho h0 h1 ha
        refine wpTake_cons (hs S hS) (rds_ok hC h0 hS h2 (sl_put h) (sok_put ho ov) hbb (fun a' h3 h4 h5 => hK a' h3 h4 (h5.trans ?_)))
        cases o.dst <;> rfl
end
end Go.Proofs.YtpkbbdhpdplkeaaDoor.Sx
