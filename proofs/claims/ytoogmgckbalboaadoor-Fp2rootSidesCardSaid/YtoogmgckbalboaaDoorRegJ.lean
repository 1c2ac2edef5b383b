/-
  Own text. '==' on structures whose parts are numbers of one size.
-/
import Derived.Test.YtoogmgckbalboaaDoorRegI
import Derived.Laws.StructEq
namespace Go.Proofs.YtoogmgckbalboaaDoor.Reg
set_option linter.unusedVariables false
open Go
/-- '==' tells two numbers of n words of this type. -/
def EqOK (P : Program) (d : Nat) (t : TypeId) (n : Nat) : Prop := ∀ (w : World) (xs ys : List Int), xs.length = n → ys.length = n → (Op.equalIn d t (.agg (vals .u64 xs)) (.agg (vals .u64 ys))).run P w = .ok (decide (xs = ys)) w
theorem eqok_arr {P : Program} {d n : Nat} {t e : TypeId} {k' : IntKind} (hu : P.underlying t = some (.array n e)) (he : P.underlying e = some (.int k')) (hi : (P.info? e).isSome = true) (hc : P.cellsOf e = 1) : EqOK P (d + 2) t n :=
  fun w xs ys hx hy => equalIn_vals (d := d) hu he hi hc hx hy
theorem part_seg {P : Program} {w : World} {e : TypeId} {n off : Nat} {d : TypeDesc} {xs : List Int} (hu : P.underlying e = some d) (hd : (match d with | .struct _ | .array _ _ => true | _ => false) = true) (hi : (P.info? e).map (·.size) = some n) :
    (part e (vals .u64 xs) off).run P w = .ok (.agg (vals .u64 (seg off n xs))) w := by
  have hagg : (isAgg e).run P w = .ok true w := by
    unfold isAgg
    rw [Sem.run_bind, run_underlying hu w]
    cases d <;> simp_all
  cases hq : P.info? e with
  | none => simp [hq] at hi
  | some i =>
    have hs : i.size = n := by simpa [hq] using hi
    have he : (vals .u64 xs).extract off (off + n) = vals .u64 (seg off n xs) := by
      simp [vals, seg, List.extract_toArray, List.extract_eq_take_drop, List.map_take, List.map_drop]
    simp [part, Sem.run_bind, hagg, sizeOf, typeInfo, hq, hs, he]
theorem eqFields_segs {P : Program} {w : World} {d n : Nat} {e : TypeId} {de : TypeDesc} {xs ys : List Int} (h : EqOK P d e n) (hu : P.underlying e = some de) (hd : (match de with | .struct _ | .array _ _ => true | _ => false) = true) (hi : (P.info? e).map (·.size) = some n) : ∀ fs : List Field,
    (∀ f ∈ fs, f.name ≠ "_" ∧ f.type = e ∧ f.offset + n ≤ xs.length ∧ f.offset + n ≤ ys.length) → (Op.eqFields d (vals .u64 xs) (vals .u64 ys) fs).run P w = .ok (fs.all fun f => decide (seg f.offset n xs = seg f.offset n ys)) w
  | [], _ => by simp [Op.eqFields]
  | f :: fs, hf => by
    obtain ⟨h1, h2, h3, h4⟩ := hf f (by simp)
    have ih := eqFields_segs (w := w) (xs := xs) (ys := ys) h hu hd hi fs (fun g hg => hf g (by simp [hg]))
    have hx := part_seg (w := w) (off := f.offset) (xs := xs) hu hd hi
    have hy := part_seg (w := w) (off := f.offset) (xs := ys) hu hd hi
    have he := h w (seg f.offset n xs) (seg f.offset n ys) (seg_len rfl h3) (seg_len rfl h4)
    subst h2
    simp only [Op.eqFields, if_pos h1, Sem.run_bind, hx, hy, Result.andThen_ok, he]
    by_cases hq : seg f.offset n xs = seg f.offset n ys
    · simp [hq, ih]
    · simp [hq]
theorem seg_all {n m : Nat} {l : List Int} (hl : l.length = n + m) : l = seg 0 n l ++ seg n m l := by
  have e : seg n m l = l.drop n := List.take_of_length_le (by rw [List.length_drop, hl]; omega)
  rw [e, show seg 0 n l = l.take n from rfl, List.take_append_drop]
theorem eqok_two {P : Program} {d n : Nat} {t e : TypeId} {de : TypeDesc} (h : EqOK P d e n) (hu : P.underlying e = some de) (hd : (match de with | .struct _ | .array _ _ => true | _ => false) = true) (hi : (P.info? e).map (·.size) = some n) (ht : P.underlying t = some (.struct (P.fieldsOf t))) (hp : P.stoodInHeld t = false)
    (hf : (P.fieldsOf t).toList.map (fun f => (decide (f.name = "_"), f.type, f.offset)) = [(false, e, 0), (false, e, n)]) : EqOK P (d + 1) t (n + n) := fun w xs ys hx hy => by
  rw [run_equalIn_struct w d t _ _ ht hp]
  generalize (P.fieldsOf t).toList = fs at hf
  rcases fs with _ | ⟨f, _ | ⟨g, _ | ⟨k, r⟩⟩⟩
  · simp at hf
  · simp at hf
  · simp only [List.map_cons, List.map_nil, List.cons.injEq, Prod.mk.injEq, decide_eq_false_iff_not, and_true] at hf
    obtain ⟨⟨f1, f2, f3⟩, g1, g2, g3⟩ := hf
    rw [eqFields_segs h hu hd hi [f, g] (fun k hk => by
      rcases List.mem_cons.1 hk with rfl | hk
      · exact ⟨f1, f2, by omega, by omega⟩
      · obtain rfl : k = g := by simpa using hk
        exact ⟨g1, g2, by omega, by omega⟩)]
    congr 1
    rw [Bool.eq_iff_iff]
    simp only [List.all_cons, List.all_nil, Bool.and_true, Bool.and_eq_true, decide_eq_true_eq, f3, g3]
    exact ⟨fun hh => by rw [seg_all hx, seg_all hy, hh.1, hh.2], fun hh => by rw [hh]; exact ⟨rfl, rfl⟩⟩
  · simp at hf
section
variable {P : Program} {ops : Array Oper} {S : World → Prop} {K : Act → Prop} {o : Oper} {rest : List Oper} {a : Act}
theorem take_skip (h : Region.wanted o (yielded ops a.tmps) = false) (h2 : wpTake P ops S K rest (a.put o.dst undef)) : wpTake P ops S K (o :: rest) a := wpTake_cons (.inr ⟨h, rfl⟩) h2
theorem take_eql (hgd : Region.wanted o (yielded ops a.tmps) = true) {t r : TypeId} {x y : Operand} (ho : o.op = .binOp .eql t x y r) {xs ys : List Int} {n : Nat} (hx : a.eval x = .agg (vals .u64 xs)) (hy : a.eval y = .agg (vals .u64 ys)) (hE : EqOK P 10000 t n) (hg : P.eqGuardType P.depth t = false)
    (hl : xs.length = n) (hl' : ys.length = n) {b : Bool} (hb : decide (xs = ys) = b) (h2 : wpTake P ops S K rest (a.put o.dst (.bool b))) : wpTake P ops S K (o :: rest) a := by
  refine wpTake_cons (v := .bool b) (.inl ⟨hgd, fun w _ => ?_⟩) h2
  have h := hE w xs ys hl hl'
  rw [hb] at h
  unfold Oper.quietAt
  simp only [execOp, ho, hx, hy]
  go_simp <;> exact ⟨rfl, rfl⟩
theorem take_neq (hgd : Region.wanted o (yielded ops a.tmps) = true) {t r : TypeId} {x y : Operand} (ho : o.op = .binOp .neq t x y r) {xs ys : List Int} {n : Nat} (hx : a.eval x = .agg (vals .u64 xs)) (hy : a.eval y = .agg (vals .u64 ys)) (hE : EqOK P 10000 t n) (hg : P.eqGuardType P.depth t = false)
    (hl : xs.length = n) (hl' : ys.length = n) {b : Bool} (hb : decide (xs = ys) = b) (h2 : wpTake P ops S K rest (a.put o.dst (.bool (!b)))) : wpTake P ops S K (o :: rest) a := by
  refine wpTake_cons (v := .bool (!b)) (.inl ⟨hgd, fun w _ => ?_⟩) h2
  have h := hE w xs ys hl hl'
  rw [hb] at h
  unfold Oper.quietAt
  simp only [execOp, ho, hx, hy]
  go_simp <;> exact ⟨rfl, rfl⟩
theorem take_eql_t (hgd : Region.wanted o (yielded ops a.tmps) = true) {t r : TypeId} {x y : Operand} (ho : o.op = .binOp .eql t x y r) {xs ys : List Int} {n : Nat} (hx : a.eval x = .agg (vals .u64 xs)) (hy : a.eval y = .agg (vals .u64 ys)) (hE : EqOK P 10000 t n) (hg : P.eqGuardType P.depth t = false)
    (hl : xs.length = n) (hl' : ys.length = n) (h : xs = ys) (h2 : wpTake P ops S K rest (a.put o.dst (.bool true))) : wpTake P ops S K (o :: rest) a := take_eql hgd ho hx hy hE hg hl hl' (b := true) (decide_eq_true h) h2
theorem take_eql_f (hgd : Region.wanted o (yielded ops a.tmps) = true) {t r : TypeId} {x y : Operand} (ho : o.op = .binOp .eql t x y r) {xs ys : List Int} {n : Nat} (hx : a.eval x = .agg (vals .u64 xs)) (hy : a.eval y = .agg (vals .u64 ys)) (hE : EqOK P 10000 t n) (hg : P.eqGuardType P.depth t = false)
    (hl : xs.length = n) (hl' : ys.length = n) (h : xs ≠ ys) (h2 : wpTake P ops S K rest (a.put o.dst (.bool false))) : wpTake P ops S K (o :: rest) a := take_eql hgd ho hx hy hE hg hl hl' (b := false) (decide_eq_false h) h2
theorem take_neq_t (hgd : Region.wanted o (yielded ops a.tmps) = true) {t r : TypeId} {x y : Operand} (ho : o.op = .binOp .neq t x y r) {xs ys : List Int} {n : Nat} (hx : a.eval x = .agg (vals .u64 xs)) (hy : a.eval y = .agg (vals .u64 ys)) (hE : EqOK P 10000 t n) (hg : P.eqGuardType P.depth t = false)
    (hl : xs.length = n) (hl' : ys.length = n) (h : xs = ys) (h2 : wpTake P ops S K rest (a.put o.dst (.bool false))) : wpTake P ops S K (o :: rest) a := take_neq hgd ho hx hy hE hg hl hl' (b := true) (decide_eq_true h) h2
theorem take_neq_f (hgd : Region.wanted o (yielded ops a.tmps) = true) {t r : TypeId} {x y : Operand} (ho : o.op = .binOp .neq t x y r) {xs ys : List Int} {n : Nat} (hx : a.eval x = .agg (vals .u64 xs)) (hy : a.eval y = .agg (vals .u64 ys)) (hE : EqOK P 10000 t n) (hg : P.eqGuardType P.depth t = false)
    (hl : xs.length = n) (hl' : ys.length = n) (h : xs ≠ ys) (h2 : wpTake P ops S K rest (a.put o.dst (.bool true))) : wpTake P ops S K (o :: rest) a := take_neq hgd ho hx hy hE hg hl hl' (b := false) (decide_eq_false h) h2
end
theorem built_none {P : Program} {t : TypeId} {pl : List (Nat × Nat)} {z : List Int} (hB : Built P t pl z) : P.built t [] = some (vals .u64 z) := hB []
theorem built_a {P : Program} {t : TypeId} {n : Nat} {xs : List Int} (hB : Built P t [(0, n), (n, n)] (List.replicate (n + n) 0)) (hx : xs.length = n) : P.built t [(0, .agg (vals .u64 xs))] = some (vals .u64 (xs ++ List.replicate n 0)) := by
  rw [hB, fill_part (off := 0) (n := n) rfl hx (by simp)]
  simp [Instr.fill]
theorem built_b {P : Program} {t : TypeId} {n : Nat} {xs : List Int} (hB : Built P t [(0, n), (n, n)] (List.replicate (n + n) 0)) (hx : xs.length = n) : P.built t [(1, .agg (vals .u64 xs))] = some (vals .u64 (List.replicate n 0 ++ xs)) := by
  rw [hB, fill_part (off := n) (n := n) rfl hx (by simp)]
  simp [Instr.fill]
end Go.Proofs.YtoogmgckbalboaaDoor.Reg
