/-
  Own text. Structures of arrays of numbers that come in as arguments.
-/
import Derived.Test.YtdldebceailgdaaDoorArr
import Derived.ChangeSame
namespace Go.Proofs.YtdldebceailgdaaDoor.Reg
open Go
section
variable {H : Type} {enc : TypeId × Value → H} {P : Program} {w : World} {base base2 : Nat} {spare : Nat → Bool} {held : Bool} {r : Reach} {k : IntKind}
/-- All cells of a type are numbers of one kind. -/
def Flat (enc : TypeId × Value → H) (P : Program) (w : World) (base : Nat) (spare : Nat → Bool) (held : Bool) (k : IntKind) (t : TypeId) (n : Nat) : Prop :=
  ∀ (fuel : Nat) (cs : List Value) (x : DataW H × List MemPlace), DataW.trod enc P w base spare held fuel t cs = some x → ∃ zs : List Int, cs = zs.map (Value.int k) ∧ zs.length = n ∧ ∀ z ∈ zs, (Lit.int k z).wf = true
theorem flat_parts {n : Nat} : ∀ (m : Nat) (cs : List Value), cs.length = m * n → (∀ i, i < m → ∃ zs : List Int, (cs.drop (i * n)).take n = zs.map (Value.int k) ∧ zs.length = n ∧ ∀ z ∈ zs, (Lit.int k z).wf = true) →
    ∃ zs : List Int, cs = zs.map (Value.int k) ∧ zs.length = m * n ∧ ∀ z ∈ zs, (Lit.int k z).wf = true
  | 0, cs, hl, _ => ⟨[], by rw [Nat.zero_mul] at hl; rw [List.eq_nil_of_length_eq_zero hl]; rfl, by simp, by simp⟩
  | m + 1, cs, hl, h => by
    rw [Nat.succ_mul] at hl
    obtain ⟨z0, e0, l0, w0⟩ := h 0 (by omega)
    rw [Nat.zero_mul, List.drop_zero] at e0
    obtain ⟨z1, e1, l1, w1⟩ := flat_parts (n := n) m (cs.drop n) (by rw [List.length_drop]; omega) (fun i hi => by
      rw [List.drop_drop, show n + i * n = (i + 1) * n by rw [Nat.succ_mul, Nat.add_comm]]
      exact h (i + 1) (by omega))
    refine ⟨z0 ++ z1, ?_, by rw [List.length_append, l0, l1, Nat.succ_mul, Nat.add_comm], fun z hz => ?_⟩
    · rw [List.map_append, ← e0, ← e1, List.take_append_drop]
    · rcases List.mem_append.1 hz with hz | hz
      · exact w0 z hz
      · exact w1 z hz
theorem flat_int {e : TypeId} (he : P.underlying e = some (.int k)) : Flat enc P w base spare held k e 1 := fun fuel cs x h => by
  obtain ⟨z, rfl, _, hwf⟩ := DataW.trod_int he h
  exact ⟨[z], rfl, rfl, by simpa using hwf⟩
theorem flat_arr {t e : TypeId} {n m : Nat} (he : Flat enc P w base spare held k e n) (ht : P.underlying t = some (.array m e)) (hce : P.cellsOf e = n) (hct : P.cellsOf t = m * n) : Flat enc P w base spare held k t (m * n) := fun fuel cs x h => by
  obtain ⟨xs, j, _, _, hl, hxl, hx⟩ := DataW.trod_array ht h
  refine flat_parts m cs (by rw [hl, hct]) (fun i hi => ?_)
  have h1 := hx i hi
  rw [hce, List.getElem?_eq_getElem (by omega)] at h1
  exact he _ _ _ h1
theorem flat_struct {t e : TypeId} {n m : Nat} (he : Flat enc P w base spare held k e n) (ht : P.underlying t = some (.struct (P.fieldsOf t))) (hce : P.cellsOf e = n) (hct : P.cellsOf t = m * n)
    (hf : (P.fieldsOf t).toList.map (fun f => (f.type, f.offset)) = (List.range m).map fun i => (e, i * n)) : Flat enc P w base spare held k t (m * n) := fun fuel cs x h => by
  obtain ⟨xs, j, _, _, hl, hlen, hx⟩ := DataW.trod_struct ht h
  refine flat_parts m cs (by rw [hl, hct]) (fun i hi => ?_)
  have hsz : (P.fieldsOf t).size = m := by
    have := congrArg List.length hf
    simpa using this
  obtain ⟨f, hfi⟩ : ∃ f, (P.fieldsOf t)[i]? = some f := ⟨_, Array.getElem?_eq_getElem (by omega)⟩
  have h1 := hx i f hfi
  have h2 : (f.type, f.offset) = (e, i * n) := by
    have h3 : ((P.fieldsOf t).toList.map (fun f => (f.type, f.offset)))[i]? = some (f.type, f.offset) := by
      rw [List.getElem?_map, Array.getElem?_toList, hfi]
      rfl
    rw [hf, List.getElem?_map, List.getElem?_range hi] at h3
    simpa using h3.symm
  injection h2 with h4 h5
  rw [h4, h5, hce, List.getElem?_eq_getElem (by omega)] at h1
  exact he _ _ _ h1
theorem open_flat {t : TypeId} {n : Nat} {v : Value} {d : DataW H} {p : List MemPlace} {de : TypeDesc} (hf : Flat enc P w base spare held k t n) (ht : P.underlying t = some de) (hd : (match de with | .struct _ | .array _ _ => true | _ => false) = true)
    (hv : Value.okWide P w r base2 t v) (h : DataW.Trod enc P w base spare held t v d p) : ∃ zs : List Int, v = .agg (vals k zs) ∧ zs.length = n ∧ ∀ z ∈ zs, (Lit.int k z).wf = true := by
  have hagg : ∃ cs, v = .agg cs := by
    cases de <;> simp at hd <;> simp only [Value.okWide, ht] at hv <;> obtain ⟨cs, h1, _⟩ := hv <;> exact ⟨cs, h1⟩
  obtain ⟨cs, rfl⟩ := hagg
  obtain ⟨fuel, hfu⟩ := h
  obtain ⟨zs, e, hl, hw⟩ := hf _ _ _ hfu
  refine ⟨zs, ?_, hl, hw⟩
  congr 1
  apply Array.ext'
  rw [show cs.toList = zs.map (Value.int k) from e]
  simp [vals]
end
end Go.Proofs.YtdldebceailgdaaDoor.Reg
