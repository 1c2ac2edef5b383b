/-
  Own text. A listed package-level variable of words lies as one block.
-/
import Derived.Test.YtdldebceailgdaaDoorMReg
import Derived.OpenShut
import Derived.MakeChecks
namespace Go.Proofs.YtdldebceailgdaaDoor.Reg
open Go Go.RowKit Go.ChangeShapes

theorem laid_var {P : Program} {W : World} : ∀ {laid : List (String × DataW Unit)} {ps : List MemPlace}, DataW.LaidVars P W laid ps → ∀ {n : String} {d : DataW Unit}, (n, d) ∈ laid →
    ∃ g t cs fuel p, P.globalNamed n = some g ∧ (P.globals[g]?).map (·.type) = some t ∧ W.var? P n = some cs ∧ DataW.trod (fun _ => ()) P W 0 (fun _ => true) false fuel t cs.toList = some (d, p) ∧ ∀ x ∈ MemPlace.row ⟨g, 0, none⟩ cs.size, x ∈ ps
  | [], _, _, _, _, hm => by cases hm
  | (n', d') :: r, ps, h, n, d, hm => by
    obtain ⟨g, t, cs, fuel, p, q, hg, ht, hv, hd, hr, rfl⟩ := h
    rcases List.mem_cons.1 hm with e | hm
    · obtain ⟨rfl, rfl⟩ := Prod.mk.injEq .. ▸ e
      exact ⟨g, t, cs, fuel, p, hg, ht, hv, hd, fun x hx => List.mem_append_left _ (List.mem_append_left _ hx)⟩
    · obtain ⟨g, t, cs, fuel, p', hg, ht, hv, hd, hx⟩ := laid_var hr hm
      exact ⟨g, t, cs, fuel, p', hg, ht, hv, hd, fun x h => List.mem_append_right _ (hx x h)⟩
/-- A listed variable's block, and how its cells read. -/
theorem laid_block {P : Program} {W : World} {laid : List (String × DataW Unit)} (hp : (laid.all fun x => x.2.handleName?.isNone) = true) (h : laidMetH P laid W) {n : String} {d : DataW Unit} (hm : (n, d) ∈ laid) {g : Nat} {t : TypeId}
    (hg : P.globalNamed n = some g) (ht : (P.globals[g]?).map (·.type) = some t) :
    ∃ cs fuel p, DataW.trod (fun _ => ()) P W 0 (fun _ => true) false fuel t cs.toList = some (d, p) ∧ (0 < cs.size → ∃ t', Has W g t' cs) := by
  rw [MakeChecks.laidMetH_plain _ _ _ hp] at h
  obtain ⟨ps, hv, _, hrow⟩ := h
  obtain ⟨g', t', cs, fuel, p, hg', ht', hv', hd, hin⟩ := laid_var hv hm
  obtain rfl := Option.some.inj (hg.symm.trans hg')
  obtain rfl := Option.some.inj (ht.symm.trans ht')
  refine ⟨cs, fuel, p, hd, fun h0 => ?_⟩
  have h1 : MemPlace.cell g 0 ∈ ps := hin _ (by
    unfold MemPlace.row
    exact List.mem_map.2 ⟨0, List.mem_range.2 h0, rfl⟩)
  obtain ⟨⟨c, u, hc⟩, _⟩ := hrow g 0 h1
  refine ⟨u, ⟨?_⟩⟩
  have h2 : W.var? P n = some c := by
    unfold World.var?
    rw [hg]
    show (match W.heap[g]? with | some (.cells cs _ _) => some cs | _ => none) = some c
    rw [hc]
  rw [h2] at hv'
  rw [hc, Option.some.inj hv']
/-- An array of numbers reads as its row. -/
theorem ints_of_trod {P : Program} {W : World} {fuel : Nat} {t e : TypeId} {n : Nat} {k : IntKind} (zs : List Int) {l : List Value} {p : List MemPlace} (ht : P.underlying t = some (.array n e)) (he : P.underlying e = some (.int k)) (hce : P.cellsOf e = 1) (hct : P.cellsOf t = n)
    (h : DataW.trod (fun _ => ()) P W 0 (fun _ => true) false fuel t l = some (.agg (zs.map fun z => .lit (.int k z)), p)) : l = zs.map (Value.int k) := by
  obtain ⟨xs, m, _, hx, hl, hn, hel⟩ := DataW.trod_array ht h
  have h1 : xs.map (·.1) = zs.map fun z => (DataW.lit (.int k z) : DataW Unit) := by
    have := congrArg Prod.fst hx
    simpa using this.symm
  have hzn : zs.length = n := by have := congrArg List.length h1; simp at this; omega
  refine List.ext_getElem? fun i => ?_
  rcases Nat.lt_or_ge i n with hi | hi
  · have h2 := hel i hi
    rw [hce, Nat.mul_one, List.getElem?_eq_getElem (by omega)] at h2
    obtain ⟨z, hz, e1, _⟩ := DataW.trod_int he h2
    have h3 : (xs.map (·.1))[i]? = some (.lit (.int k z)) := by rw [List.getElem?_map, List.getElem?_eq_getElem (by omega), e1]; rfl
    rw [h1, List.getElem?_map] at h3
    have h4 : ((l.drop i).take 1)[0]? = some (Value.int k z) := by rw [hz]; rfl
    rw [List.getElem?_take_of_lt (by omega), List.getElem?_drop, Nat.add_zero] at h4
    rw [h4, List.getElem?_map]
    cases h5 : zs[i]? with
    | none => rw [h5] at h3; cases h3
    | some y =>
      rw [h5] at h3
      simp at h3
      simp [h3]
  · rw [List.getElem?_eq_none (by omega), List.getElem?_eq_none (by simp; omega)]
/-- An array of rows of numbers, too. -/
theorem rows_of_trod {P : Program} {W : World} {fuel : Nat} {t u e : TypeId} {n m : Nat} {k : IntKind} (zs : List (List Int)) {l : List Value} {p : List MemPlace} (ht : P.underlying t = some (.array n u)) (hu : P.underlying u = some (.array m e)) (he : P.underlying e = some (.int k)) (hce : P.cellsOf e = 1) (hcu : P.cellsOf u = m) (hct : P.cellsOf t = n * m)
    (h : DataW.trod (fun _ => ()) P W 0 (fun _ => true) false fuel t l = some (.agg (zs.map fun y => .agg (y.map fun z => .lit (.int k z))), p)) : l = zs.flatten.map (Value.int k) := by
  obtain ⟨xs, f, _, hx, hl, hn, hel⟩ := DataW.trod_array ht h
  have h1 : xs.map (·.1) = zs.map fun y => (DataW.agg (y.map fun z => .lit (.int k z)) : DataW Unit) := by
    have := congrArg Prod.fst hx
    simpa using this.symm
  have hzn : zs.length = n := by have := congrArg List.length h1; simp at this; omega
  have key : ∀ j, j ≤ n → l.drop ((n - j) * m) = ((zs.drop (n - j)).flatten).map (Value.int k) := by
    intro j
    induction j with
    | zero => intro _; rw [Nat.sub_zero, List.drop_eq_nil_of_le (by rw [hl, hct]; exact Nat.le_refl _), List.drop_eq_nil_of_le (by omega)]; rfl
    | succ j ih =>
      intro hj
      have hi : n - (j + 1) < n := by omega
      have h2 := hel (n - (j + 1)) hi
      rw [hcu, List.getElem?_eq_getElem (by omega)] at h2
      have h3 : (xs.map (·.1))[n - (j + 1)]? = (zs.map fun y => (DataW.agg (y.map fun z => .lit (.int k z)) : DataW Unit))[n - (j + 1)]? := by rw [h1]
      rw [List.getElem?_map, List.getElem?_map, List.getElem?_eq_getElem (by omega), List.getElem?_eq_getElem (by omega)] at h3
      simp only [Option.map_some, Option.some.injEq] at h3
      have h4 := ints_of_trod (zs[n - (j + 1)]'(by omega)) hu he hce hcu (p := (xs[n - (j + 1)]'(by omega)).2) (by rw [h2, ← h3])
      have h5 : l.drop ((n - (j + 1)) * m) = (l.drop ((n - (j + 1)) * m)).take m ++ l.drop ((n - j) * m) := by
        have e : (n - j) * m = (n - (j + 1)) * m + m := by rw [← Nat.succ_mul]; congr 1; omega
        rw [e, ← List.drop_drop, List.take_append_drop]
      rw [h5, h4, ih (by omega), List.drop_eq_getElem_cons (by omega : n - (j + 1) < zs.length), List.flatten_cons, List.map_append, show n - (j + 1) + 1 = n - j by omega]
  have := key n (Nat.le_refl _)
  rwa [Nat.sub_self, Nat.zero_mul, List.drop_zero, List.drop_zero] at this
end Go.Proofs.YtdldebceailgdaaDoor.Reg
