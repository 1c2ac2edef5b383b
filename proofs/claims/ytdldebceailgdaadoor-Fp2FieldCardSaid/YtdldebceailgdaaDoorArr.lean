/-
  Own text. An array of numbers that comes in as an argument.
-/
import Derived.Test.YtdldebceailgdaaDoorMReg
import Derived.OpenShut
import Derived.WalkKit
import Derived.ProofKit
namespace Go.Proofs.YtdldebceailgdaaDoor.Reg
open Go
section
variable {H : Type} {enc : TypeId × Value → H} {P : Program} {w W : World} {base base2 : Nat} {spare : Nat → Bool} {held : Bool} {r : Reach}
theorem open_arr {t e : TypeId} {n : Nat} {k : IntKind} {v : Value} {d : DataW H} {p : List MemPlace} (ht : P.underlying t = some (.array n e)) (he : P.underlying e = some (.int k)) (hce : P.cellsOf e = 1) (hct : P.cellsOf t = n)
    (hv : Value.okWide P W r base2 t v) (h : DataW.Trod enc P w base spare held t v d p) : ∃ zs : List Int, v = .agg (vals k zs) ∧ zs.length = n ∧ ∀ z ∈ zs, (Lit.int k z).wf = true := by
  have hagg : ∃ cs, v = .agg cs ∧ cs.size = P.cellsOf t := by
    simp only [Value.okWide, ht] at hv
    obtain ⟨cs, h1, h2, _⟩ := hv
    exact ⟨cs, h1, h2⟩
  obtain ⟨cs, rfl, hs⟩ := hagg
  obtain ⟨fuel, hf⟩ := h
  obtain ⟨xs, m, _, _, hl, hxl, hx⟩ := DataW.trod_array ht hf
  rw [hct] at hs
  have each : ∀ i, i < n → ∃ z, cs[i]? = some (.int k z) ∧ (Lit.int k z).wf = true := by
    intro i hi
    have h1 := hx i hi
    rw [hce, Nat.mul_one] at h1
    rw [List.getElem?_eq_getElem (by omega)] at h1
    obtain ⟨z, hz, _, hwf⟩ := DataW.trod_int he h1
    refine ⟨z, ?_, hwf⟩
    have h2 : ((cs.toList.drop i).take 1)[0]? = some (Value.int k z) := by
      show (List.take 1 (List.drop i (Value.agg cs).cells.toList))[0]? = _
      rw [hz]; rfl
    rw [List.getElem?_take_of_lt (by omega), List.getElem?_drop, Nat.add_zero, Array.getElem?_toList] at h2
    exact h2
  have hz : ∀ i : Fin n, ∃ z, cs[i.1]? = some (.int k z) ∧ (Lit.int k z).wf = true := fun i => each i.1 i.2
  let f : Fin n → Int := fun i => (hz i).choose
  have hf' : ∀ i : Fin n, cs[i.1]? = some (.int k (f i)) ∧ (Lit.int k (f i)).wf = true := fun i => (hz i).choose_spec
  refine ⟨List.ofFn f, ?_, by simp, ?_⟩
  · congr 1
    apply Array.ext
    · simp [vals, hs]
    · intro i h1 h2
      have h3 := (hf' ⟨i, by omega⟩).1
      rw [Array.getElem?_eq_getElem h1] at h3
      injection h3 with h3
      rw [h3]
      simp [vals]
  · intro z hz'
    obtain ⟨i, rfl⟩ := (List.mem_ofFn).1 hz'
    exact (hf' i).2
end
end Go.Proofs.YtdldebceailgdaaDoor.Reg
