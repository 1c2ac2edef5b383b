/-
  Own text. The rest of a drawn region, from some operations on, and what follows it, by the reckoner. Speaks of no program.
-/
import Derived.Test.YtajiinecicghkaaDoorSxR
import Derived.Test.YtajiinecicghkaaDoorRegV
namespace Go.Proofs.YtajiinecicghkaaDoor.SxV
set_option linter.unusedVariables false
set_option linter.unusedSimpArgs false
open Go Go.RowKit Go.Proofs.YtajiinecicghkaaDoor.Reg Go.Proofs.YtajiinecicghkaaDoor.Base Go.Proofs.YtajiinecicghkaaDoor.Sx Go.Proofs.YtajiinecicghkaaDoor.SxR
/-- A region's operations. -/
def rg : Code → List Oper
  | .seq (.region _ o _) _ => o.toList
  | _ => []
def L6 (ops : Array Oper) : Array Bool := stm (stm (stm (stm (stm (stm (Array.replicate ops.size false) 1) 3) 0) 2) 4) 5
def evalX (P : Program) (C : Cx) (m N : Nat) (ops : Array Oper) (L : Array Bool) (f : Nat) (R : Code) (rs : List ResultVar) (sl : List AV) (bs : List Bk) (q : List Bool) : Option (List AV × List Ob) :=
  match ex P C m ops f L sl bs with
  | some (outs, o1) => match bindO (evalC P C m N R) (outs.map fun x => (x.1, x.2, q, Ek.nrm)) with
    | some (l, o2) => match resL P rs l with
      | some vs => some (vs, o1 ++ o2)
      | none => none
    | none => none
  | none => none
section
variable {P : Program} {C : Cx} {G : World → Prop} {m N f S : Nat} {fn : Func} {R : Code} {ops : Array Oper} {L : Array Bool} {sl : List AV} {bs : List Bk} {q : List Bool} {gs : List Nat} {a : Act} {w y : World} {obs : List Ob} {vs : List AV} {Q : Ending → World → Prop}
theorem post_panic (K : Act → World → Prop) : ∀ c a d v w, Exit.then K (bodyPost P fn Q) (.panic c) (Act.put a d v) w → Exit.then K (bodyPost P fn Q) (.panic c) a w := fun c a d v w h => by
  show bodyPost P fn Q (.panic c) a w
  have h : bodyPost P fn Q (.panic c) (Act.put a d v) w := h
  simp only [bodyPost] at h ⊢
  refine ⟨?_, h.2⟩
  have := h.1
  cases d <;> exact this
theorem st_move {S : World → Prop} {o : Oper} {p : Operand} {v : Value} (hg : o.guard = none) (ho : o.op = .move p) (h : a.eval p = v) : Steady P ops S o v a := by
  subst h
  exact Steady.of_yields (.inl ⟨by simp [Region.wanted, hg], fun w => by simp [execOp, ho]⟩)
theorem st_assign {S : World → Prop} {o : Oper} {p : Operand} {v : Value} (hg : o.guard = none) (ho : o.op = .assign p) (h : a.eval p = v) : Steady P ops S o v a := by
  subst h
  exact Steady.of_yields (.inl ⟨by simp [Region.wanted, hg], fun w => by simp [execOp, ho]⟩)
theorem st_extract {S : World → Prop} {o : Oper} {p : Operand} {vs : Array Value} {i : Nat} {v : Value} (hg : o.guard = none) (ho : o.op = .extract p i) (h : a.eval p = .tuple vs) (hv : vs[i]? = some v) : Steady P ops S o v a :=
  Steady.of_yields (.inl ⟨by simp [Region.wanted, hg], fun w => by simp [execOp, ho, h, Instr.extract, hv]⟩)
theorem st_load {S : World → Prop} {o : Oper} {p : Operand} {g ty t n : Nat} {cs : Array Value} (hh : ∀ u, S u → Has u g t cs) (hg : o.guard = none) (ho : o.op = .load ty p) (hx : a.eval p = .pointer (some ⟨g, 0, none⟩)) [hA : Agg P ty n] [hC : Cz n cs] : Steady P ops S o (.agg cs) a := by
  obtain ⟨d, hu, hd⟩ := hA.und
  refine .inl ⟨by simp [Region.wanted, hg], fun w1 hw => ?_⟩
  have hr := run_loadVar_row w1 g t ty cs (0, 0) d (hh w1 hw).eq hu (by cases d <;> first | rfl | (simp [aggD] at hd)) (by rw [hC.sz]; exact hA.inf)
  unfold Oper.quietAt execOp
  simp only [ho, hx, Instr.loadAt, Instr.sureAddr, Sem.run_bind, Sem.run_pure, Result.andThen_ok, hr]
  exact ⟨rfl, rfl⟩
theorem st_call {S : World → Prop} {o : Oper} {F : FuncId} {p q : Operand} {T : Array TypeId} {u1 u2 v : Value} (hg : o.guard = none) (ho : o.op = .call { callee := .value (.func F), args := #[p, q], argTypes := T }) (hp : a.eval p = u1) (hq : a.eval q = u2)
    (he : ∀ args w, (callFunc F args).run P w = .ok (.enter F args) w) (hc : ∀ u, S u → Calls P F #[u1, u2] u fun e z => e = .returned v ∧ RowKit.Below u.heap.size u z) : Steady P ops S o v a := by
  refine .inl ⟨by simp [Region.wanted, hg], fun u hu => ?_⟩
  unfold Oper.quietAt execOp
  have := hc u hu
  simp [ho, resolve, hg, show a.eval (.func F) = .func (.func F) #[] #[] from rfl, Deferred.ofValue, hp, hq, invoke, he, Oper.quietUpon]
  exact this
theorem put_ne {d k : Nat} {v : Value} (h : d ≠ k) : (a.put (some d) v).tmps[k]? = a.tmps[k]? := Array.getElem?_setIfInBounds_ne h
theorem put_eq {d : Nat} {v : Value} (h : d < a.tmps.size) : (a.put (some d) v).tmps[d]? = some v := by
  show (a.tmps.setIfInBounds d v)[d]? = some v
  rw [Array.getElem?_setIfInBounds_self]
  simp [h]
theorem put_defers {d : Nat} {v : Value} : (a.put (some d) v).defers = a.defers := rfl
theorem eval_of {k : Nat} {v : Value} (h : a.tmps[k]? = some v) : a.eval (.tmp k) = v := by
  show a.tmps.getD k undef = v
  simp [Array.getD_eq_getD_getElem?, h]
theorem calls_opq5 {P : Program} {g : FuncId} {fn : Func} {c0 c1 c2 c3 c4 R : Code} {args : Array Value} {w : World} {Q : Ending → World → Prop} (K : Act → World → Prop) (hf : P.funcs[g]? = some fn) (hb : fn.body = some (.seq c0 (.seq c1 (.seq c2 (.seq c3 (.seq c4 R))))))
    (hR : ∀ a x, K a x → R.wp P (bodyPost P fn Q) a x) (h : ∀ R', (∀ a x, K a x → R'.wp P (bodyPost P fn Q) a x) → (Code.seq c0 (.seq c1 (.seq c2 (.seq c3 (.seq c4 R'))))).wp P (bodyPost P fn Q) { tmps := args ++ Array.replicate (fn.ntmps - args.size) undef, defers := [] } w) : Calls P g args w Q :=
  calls_of_wp hf hb (h R hR)
end
end Go.Proofs.YtajiinecicghkaaDoor.SxV
