/-
  Own text. What the shell of a statement knows of a slice of integers that came in.
-/
import Derived.Test.YtkjbfkhiijnemaaShaSum2
import Derived.Test.YtkjbfkhiijnemaaMemB
import Derived.OpenShut
namespace Go.Proofs.Ytkjbfkhiijnemaa.Sha
open Go Go.RowKit Go.Proofs.Ytkjbfkhiijnemaa.Reg

theorem rd_of_row {w : World} {x : Addr} {k : IntKind} {zs : List Int} {len : Nat} (h : ∀ i, i < zs.length → w.cell? (x.add i) = some (.int k (zs.getD i 0))) (hl : len ≤ zs.length) : Rd w w.heap.size (some x) len k (zs.take len) := by
  refine ⟨by simp; omega, fun hn => ?_⟩
  obtain ⟨b, off, rfl, hc⟩ := ints_at h (by omega)
  have h0 := hc 0 (by omega)
  refine ⟨b, off, rfl, block_lt_of_cell h0, fun j hj => ?_⟩
  rw [hc j (by omega)]
  simp [nth, List.getElem?_take_of_lt hj]
theorem bytes_of_wf {zs : List Int} (h : ∀ n ∈ zs, (Lit.int .u8 n).wf = true) (len : Nat) : Bytes (zs.take len) := bytes_of _ fun i hi => by
  have hm : nth (zs.take len) i ∈ zs := by
    have : nth (zs.take len) i = (zs.take len)[i] := by simp [nth]; simp at hi; simp [hi]
    rw [this]
    exact List.mem_of_mem_take (List.getElem_mem hi)
  have := bounds_u8 (h _ hm)
  omega

/-- What the shell of a statement knows of a slice of bytes that came in. -/
theorem open_row {w : World} {a : Option Addr} {len cap : Nat} {zs : List Int} (h : (a = none ∧ len = 0 ∧ cap = 0 ∧ zs = []) ∨
    ∃ x, a = some x ∧ len ≤ cap ∧ cap ≤ maxLen ∧ zs.length = cap ∧ (∀ i, i < zs.length → w.cell? (x.add i) = some (.int .u8 (zs.getD i 0))) ∧ ∀ n ∈ zs, (Lit.int .u8 n).wf = true) :
    Rd w w.heap.size a len .u8 (zs.take len) ∧ Bytes (zs.take len) := by
  rcases h with ⟨rfl, rfl, rfl, rfl⟩ | ⟨x, rfl, hl, _, hz, hc, hwf⟩
  · exact ⟨Rd.nil_, fun i => by simp [nth]⟩
  · exact ⟨rd_of_row hc (by omega), bytes_of_wf hwf len⟩
end Go.Proofs.Ytkjbfkhiijnemaa.Sha
