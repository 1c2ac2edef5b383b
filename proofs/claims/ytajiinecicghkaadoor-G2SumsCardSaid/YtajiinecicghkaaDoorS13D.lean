/-
  Own text. Arguments of layer 13's statements: slices of points, slices of slices of words.
-/
import Derived.Test.YtajiinecicghkaaDoorS13S
import Derived.Test.YtajiinecicghkaaDoorS13C
namespace Go.Proofs.YtajiinecicghkaaDoor.S13D
set_option linter.unusedVariables false
open Go Go.ChangeShapes Go.WideShapes Go.ChangeAt Go.RowKit Go.Proofs.YtajiinecicghkaaDoor.Reg Go.Proofs.YtajiinecicghkaaDoor.Base Go.Proofs.YtajiinecicghkaaDoor.Limb Go.Proofs.YtajiinecicghkaaDoor.Sx Go.Proofs.YtajiinecicghkaaDoor.Fp2 Go.Proofs.YtajiinecicghkaaDoor.S13R Go.Proofs.YtajiinecicghkaaDoor.S13S Go.Proofs.YtajiinecicghkaaDoor.S13C
section
variable {H : Type} {enc : TypeId × Value → H} {w : World} {base : Nat} {spare : Nat → Bool} {held : Bool}
theorem pts_of : ∀ {css : List (List Value)}, (∀ cs ∈ css, ∃ (zs : List Int) (b : Bool), cs = zs.map (Value.int .u64) ++ [.bool b] ∧ zs.length = 24 ∧ ∀ z ∈ zs, (Lit.int .u64 z).wf = true) → ∃ ps : List (List Int × Bool), ps.length = css.length ∧ (∀ p ∈ ps, Nm 24 p.1) ∧ den (prow ps) = css.flatten
  | [], _ => ⟨[], rfl, fun p h => (by cases h), rfl⟩
  | cs :: css, h => by
    obtain ⟨zs, b, rfl, hl, hw⟩ := h cs List.mem_cons_self
    obtain ⟨ps, h1, h2, h3⟩ := pts_of (css := css) (fun c hc => h c (List.mem_cons_of_mem _ hc))
    refine ⟨(zs, b) :: ps, by simp [h1], fun p hp => ?_, ?_⟩
    · rcases List.mem_cons.1 hp with rfl | hp
      · exact ⟨hl, words_wf hw⟩
      · exact h2 p hp
    · rw [prow, den, den, h3, List.flatten_cons, List.append_assoc]
      rfl
theorem kss_of : ∀ {css : List (List Value)}, (∀ cs ∈ css, ∃ (A : Option Addr) (n c : Nat) (l : List Int), cs = [.slice A n c] ∧ Words l ∧ ∃ B, B ≤ w.heap.size ∧ Rd w B A n .u64 l) → ∃ ks : List (Option Addr × Nat × Nat × List Int), ks.length = css.length ∧ (∀ k ∈ ks, Words k.2.2.2) ∧ (∀ k ∈ ks, ∃ B, B ≤ w.heap.size ∧ Rd w B k.1 k.2.1 .u64 k.2.2.2) ∧ den (krow ks) = css.flatten
  | [], _ => ⟨[], rfl, fun k h => (by cases h), fun k h => (by cases h), rfl⟩
  | cs :: css, h => by
    obtain ⟨A, n, c, l, rfl, hl, hr⟩ := h cs List.mem_cons_self
    obtain ⟨ks, h1, h2, h3, h4⟩ := kss_of (css := css) (fun c hc => h c (List.mem_cons_of_mem _ hc))
    refine ⟨(A, n, c, l) :: ks, by simp [h1], fun k hk => ?_, fun k hk => ?_, ?_⟩
    · rcases List.mem_cons.1 hk with rfl | hk
      · exact hl
      · exact h2 k hk
    · rcases List.mem_cons.1 hk with rfl | hk
      · exact hr
      · exact h3 k hk
    · rw [krow, den, h4, List.flatten_cons]
      rfl
abbrev Cells (w : World) (A : Option Addr) (r : Row) : Prop := r = [] ∨ ∃ b o, A = some ⟨b, o, none⟩ ∧ ∀ j v, (den r)[j]? = some v → w.cell? ⟨b, o + j, none⟩ = some v ∧ b < w.heap.size
theorem open_g2s {fuel : Nat} {A : Option Addr} {len cap : Nat} {x : DataW H × List MemPlace} (h : DataW.trod enc Tryd.prog w base spare held fuel 41 [.slice A len cap] = some x) : ∃ ps : List (List Int × Bool), ps.length = len ∧ (∀ p ∈ ps, Nm 24 p.1) ∧ Cells w A (prow ps) := by
  obtain ⟨css, h1, _, _, h2, h3⟩ := open_elems Tryd.underlying41 h
  obtain ⟨ps, p1, p2, p3⟩ := pts_of (css := css) (fun cs hcs => by
    obtain ⟨_, fuel', y, hy⟩ := h2 cs hcs
    exact flat_g2 _ _ _ hy)
  rw [← p3] at h3
  refine ⟨ps, p1.trans h1, p2, ?_⟩
  rcases h3 with h3 | h3
  · left
    cases ps with
    | nil => rfl
    | cons p ps =>
      obtain ⟨x, b⟩ := p
      simp [prow, den, Sg.den] at h3
  · exact .inr h3
theorem open_wordss {fuel : Nat} {A : Option Addr} {len cap : Nat} {x : DataW H × List MemPlace} (h : DataW.trod enc Tryd.prog w base spare held fuel 40 [.slice A len cap] = some x) : ∃ ks : List (Option Addr × Nat × Nat × List Int), ks.length = len ∧ (∀ k ∈ ks, Words k.2.2.2) ∧ (∀ k ∈ ks, ∃ B, B ≤ w.heap.size ∧ Rd w B k.1 k.2.1 .u64 k.2.2.2) ∧ Cells w A (krow ks) := by
  obtain ⟨css, h1, _, _, h2, h3⟩ := open_elems Tryd.underlying40 h
  obtain ⟨ks, p1, p2, p3, p4⟩ := kss_of (w := w) (css := css) (fun cs hcs => by
    obtain ⟨_, fuel', y, hy⟩ := h2 cs hcs
    rcases open_ints Tryd.underlying35 Tryd.underlying23 (by kernel_rfl) hy with ⟨rfl, _⟩ | ⟨a, len', cap', zs, rfl, _, hl, hm, hz, _, hcell, hwz⟩
    · exact ⟨none, 0, 0, [], rfl, words_nil, 0, Nat.zero_le _, ⟨rfl, fun h => absurd h (Nat.lt_irrefl _)⟩⟩
    · have hlz : len' ≤ zs.length := by rw [hz]; split <;> omega
      refine ⟨some a, len', cap', zs.take len', rfl, words_wf (fun z hzm => hwz z (List.mem_of_mem_take hzm)), w.heap.size, Nat.le_refl _, ⟨by simp; omega, fun hn => ?_⟩⟩
      obtain ⟨b, off, rfl, hc2⟩ := ints_at hcell (by omega)
      have h0 := hc2 0 (by omega)
      refine ⟨b, off, rfl, cell_lt h0, fun j hj => ?_⟩
      rw [hc2 j (by omega)]
      simp [nth, List.getElem?_take_of_lt hj])
  rw [← p4] at h3
  refine ⟨ks, p1.trans h1, p2, p3, ?_⟩
  rcases h3 with h3 | h3
  · left
    cases ks with
    | nil => rfl
    | cons k ks =>
      obtain ⟨A, n, c, l⟩ := k
      simp [krow, den, Sg.den] at h3
  · exact .inr h3
end
end Go.Proofs.YtajiinecicghkaaDoor.S13D
