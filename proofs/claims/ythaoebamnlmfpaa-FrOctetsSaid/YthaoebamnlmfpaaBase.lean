/-
  Own text. Small words for all layers: kinds of elements, bytes, what a call returns.
-/
import Derived.Test.YthaoebamnlmfpaaProg
import Derived.Test.YthaoebamnlmfpaaMemD
import Derived.WalkKit
import Derived.WalkSpells
import Derived.WalkLawsBesides
import Derived.Deep.QuietTactic
import Derived.BigQuiet
import Derived.BigRegion
import Derived.OpenShut
namespace Go.Proofs.Ythaoebamnlmfpaa.Base
open Go Go.RowKit Go.Proofs.Ythaoebamnlmfpaa.Reg

theorem ret_eq {v v' : Value} (h : v = v') : Ending.returned v = .returned v' := by rw [h]
theorem own_none (w : World) (base : Nat) (e : TypeId) (k : IntKind) : Own w base e k none 0 0 [] := ⟨by simp, .inl ⟨rfl, rfl⟩⟩
theorem u8Elem : IntElem Try.prog 5 .u8 1 := .of (by kernel_rfl) (by kernel_rfl)
theorem u64Elem : IntElem Try.prog 23 .u64 8 := .of (by kernel_rfl) (by kernel_rfl)
theorem drawn_below (w : World) : Below w.heap.size w w.drew := ⟨rfl, rfl, rfl, Nat.le_refl _, fun _ _ => rfl⟩

/-- All numbers of the list are bytes. -/
def Bytes (l : List Int) : Prop := ∀ i, 0 ≤ nth l i ∧ nth l i ≤ 255
theorem bytes_of (l : List Int) (h : ∀ i, i < l.length → 0 ≤ nth l i ∧ nth l i ≤ 255) : Bytes l := fun i => by
  rcases Nat.lt_or_ge i l.length with hi | hi
  · exact h i hi
  · simp [nth, List.getElem?_eq_none hi]
theorem bytes_nil : Bytes [] := bytes_of _ fun i hi => by simp at hi
theorem bytes_append {l m : List Int} (hl : Bytes l) (hm : Bytes m) : Bytes (l ++ m) := fun i => by
  rcases Nat.lt_or_ge i l.length with h | h
  · rw [nth_append_left _ _ _ h]; exact hl i
  · rw [nth_append_right _ _ _ h]; exact hm _
theorem bytes_one {x : Int} (h0 : 0 ≤ x) (h1 : x ≤ 255) : Bytes [x] := fun i => by
  rcases i with _ | i
  · exact ⟨h0, h1⟩
  · simp [nth]
theorem bytes_take {l : List Int} (h : Bytes l) (n : Nat) : Bytes (l.take n) := bytes_of _ fun i hi => by
  have : nth (l.take n) i = nth l i := by
    rw [List.length_take] at hi
    simp [nth, List.getElem?_take_of_lt (show i < n by omega)]
  rw [this]; exact h i
theorem nth_drop (l : List Int) (n i : Nat) : nth (l.drop n) i = nth l (n + i) := by simp [nth]
theorem nth_take {l : List Int} {n i : Nat} (h : i < n) : nth (l.take n) i = nth l i := by simp [nth, List.getElem?_take_of_lt h]
theorem bytes_drop {l : List Int} (h : Bytes l) (n : Nat) : Bytes (l.drop n) := fun i => by
  rw [nth_drop]; exact h _
theorem take_all {l : List Int} {n : Nat} (h : l.length = n) : l.take n = l := List.take_of_length_le (by omega)
theorem take_succ_nth (b : List Int) {i : Nat} (hi : i < b.length) : b.take (i + 1) = b.take i ++ [nth b i] := by
  rw [List.take_succ_eq_append_getElem hi]
  simp [nth, hi]

/-- A part of a slice that is read. -/
theorem rd_sub {w : World} {B b off n : Nat} {k : IntKind} {xs : List Int} (h : Rd w B (some ⟨b, off, none⟩) n k xs) {lo m : Nat} (hm : lo + m ≤ n) {ys : List Int} (hy : (xs.drop lo).take m = ys) : Rd w B (some ⟨b, off + lo, none⟩) m k ys := by
  subst hy
  have hl := h.len
  refine ⟨by simp; omega, fun h0 => ?_⟩
  obtain ⟨b', off', e, hb, hc⟩ := h.at_ (by omega)
  injection e with e
  injection e with e1 e2
  subst e1 e2
  refine ⟨b, off + lo, rfl, hb, fun j hj => ?_⟩
  rw [Nat.add_assoc, hc (lo + j) (by omega)]
  simp [nth, List.getElem?_take_of_lt hj]
/-- A cell of a slice that is read, in a later world. -/
theorem rd_cell {w w' : World} {B B' b off n : Nat} {k : IntKind} {xs : List Int} (h : Rd w B (some ⟨b, off, none⟩) n k xs) (hb : Below B' w w') (hB : B ≤ B') {j : Nat} (hj : j < n) : w'.cell? ⟨b, off + j, none⟩ = some (.int k (nth xs j)) := by
  obtain ⟨b', off', e, hlt, hc⟩ := h.at_ (by omega)
  injection e with e
  injection e with e1 e2
  subst e1 e2
  exact (hb.cell (p := ⟨b, off + j, none⟩) (by show b < B'; omega)).trans (hc j hj)

/-- What the shell of a statement knows of a slice of integers that came in. -/
theorem open_rows {w : World} {a : Option Addr} {len cap : Nat} {k : IntKind} {zs : List Int} (h : (a = none ∧ len = 0 ∧ cap = 0 ∧ zs = []) ∨
    ∃ x, a = some x ∧ len ≤ cap ∧ cap ≤ maxLen ∧ zs.length = cap ∧ (∀ i, i < zs.length → w.cell? (x.add i) = some (.int k (zs.getD i 0))) ∧ ∀ n ∈ zs, (Lit.int k n).wf = true) :
    Rd w w.heap.size a len k (zs.take len) ∧ (∀ n ∈ zs.take len, (Lit.int k n).wf = true) ∧ len ≤ cap ∧ cap ≤ maxLen := by
  rcases h with ⟨rfl, rfl, rfl, rfl⟩ | ⟨x, rfl, hl, hm, hz, hc, hwf⟩
  · exact ⟨Rd.nil_, fun n hn => (by simp at hn), Nat.le_refl _, Nat.zero_le _⟩
  · refine ⟨?_, fun n hn => hwf n (List.mem_of_mem_take hn), hl, hm⟩
    refine ⟨by simp; omega, fun hn => ?_⟩
    obtain ⟨b, off, rfl, hc2⟩ := ints_at hc (by omega)
    have h0 := hc2 0 (by omega)
    refine ⟨b, off, rfl, block_lt_of_cell h0, fun j hj => ?_⟩
    rw [hc2 j (by omega)]
    simp [nth, List.getElem?_take_of_lt hj]
theorem nth_mem {l : List Int} {i : Nat} (h : i < l.length) : nth l i ∈ l := by
  have : nth l i = l[i] := by simp [nth, h]
  rw [this]; exact List.getElem_mem h
theorem bytes_wf {l : List Int} (h : ∀ n ∈ l, (Lit.int .u8 n).wf = true) : Bytes l := bytes_of _ fun i hi => by
  have := bounds_u8 (h _ (nth_mem hi))
  omega

/-- Words o, and noughts up to n. -/
def padTo (n : Nat) (o : List Int) : List Int := o ++ List.replicate (n - o.length) 0
theorem padTo_len {n : Nat} {o : List Int} (h : o.length ≤ n) : (padTo n o).length = n := by simp [padTo]; omega
theorem padTo_nil (n : Nat) : padTo n [] = List.replicate n 0 := by simp [padTo]
theorem padTo_full {n : Nat} {o : List Int} (h : o.length = n) : padTo n o = o := by simp [padTo, h]
theorem padTo_set {n : Nat} {o : List Int} (h : o.length < n) (d : Int) : (padTo n o).set o.length d = padTo n (o ++ [d]) := by
  obtain ⟨m, hm⟩ : ∃ m, n - o.length = m + 1 := ⟨n - o.length - 1, by omega⟩
  have hm' : n - (o ++ [d]).length = m := by simp; omega
  rw [padTo, padTo, hm, hm', List.replicate_succ, List.set_append_right _ _ (Nat.le_refl _), Nat.sub_self, List.set_cons_zero, List.append_assoc]
  rfl
theorem padTo_set' {n k : Nat} {o : List Int} (ho : o.length = k) (h : k < n) (d : Int) : (padTo n o).set k d = padTo n (o ++ [d]) := by subst ho; exact padTo_set h d

/-- The first words turned, the rest as it was. -/
theorem mix_len {o l : List Int} {k n : Nat} (ho : o.length = k) (hl : l.length = n) (h : k ≤ n) : (o ++ l.drop k).length = n := by simp; omega
theorem mix_nth {o l : List Int} {k : Nat} (ho : o.length = k) : nth (o ++ l.drop k) k = nth l k := by rw [nth_append_right _ _ _ (by omega), nth_drop, ho, Nat.sub_self, Nat.add_zero]
theorem mix_set {o l : List Int} {k : Nat} (ho : o.length = k) (h : k < l.length) (d : Int) : (o ++ l.drop k).set k d = (o ++ [d]) ++ l.drop (k + 1) := by
  subst ho
  rw [List.set_append_right _ _ (Nat.le_refl _), Nat.sub_self, List.drop_eq_getElem_cons h, List.set_cons_zero, List.append_assoc]
  rfl
theorem mix_full {o l : List Int} {k : Nat} (hl : l.length ≤ k) : o ++ l.drop k = o := by rw [List.drop_eq_nil_of_le hl, List.append_nil]

/-- A slice in memory that the call itself made (from block 'base' on), wherever it begins; none of it frozen. -/
structure Frs (w : World) (base : Nat) (A : Option Addr) (n : Nat) (k : IntKind) (xs : List Int) : Prop where
  len : xs.length = n
  at_ : 0 < n → ∃ b off, A = some ⟨b, off, none⟩ ∧ base ≤ b ∧ b < w.heap.size ∧ (∀ j, j < n → w.cell? ⟨b, off + j, none⟩ = some (.int k (nth xs j))) ∧ (∀ j, j < n → w.frozen? ⟨b, off + j, none⟩ = false)
section
variable {w w' : World} {base n c : Nat} {e : TypeId} {A : Option Addr} {k : IntKind} {xs : List Int}
theorem Frs.of_own (h : Own w base e k A n c xs) : Frs w base A n k xs := ⟨h.len, fun hn => by
  obtain ⟨g, hA, hg, hlt, _, hc, hf⟩ := h.at_ hn
  exact ⟨g, 0, hA, hg, hlt, fun j hj => by rw [Nat.zero_add]; exact hc j hj, fun j _ => by rw [Nat.zero_add]; exact hf j⟩⟩
theorem Frs.nil : Frs w base A 0 k [] := ⟨rfl, fun h => absurd h (by omega)⟩
theorem Frs.rd (h : Frs w base A n k xs) : Rd w w.heap.size A n k xs := ⟨h.len, fun hn => by
  obtain ⟨b, off, hA, _, hlt, hc, _⟩ := h.at_ hn
  exact ⟨b, off, hA, hlt, hc⟩⟩
theorem Frs.down (h : Frs w base A n k xs) {base' : Nat} (hb : base' ≤ base) : Frs w base' A n k xs := ⟨h.len, fun hn => by
  obtain ⟨b, off, hA, hg, r⟩ := h.at_ hn
  exact ⟨b, off, hA, Nat.le_trans hb hg, r⟩⟩
/-- A cell, in a later world. -/
theorem Frs.cell (h : Frs w base A n k xs) (hn : 0 < n) : ∃ b off, A = some ⟨b, off, none⟩ ∧ base ≤ b ∧ b < w.heap.size ∧ ∀ w', Below w.heap.size w w' → ∀ j, j < n → w'.cell? ⟨b, off + j, none⟩ = some (.int k (nth xs j)) := by
  obtain ⟨b, off, hA, hg, hlt, hc, _⟩ := h.at_ hn
  exact ⟨b, off, hA, hg, hlt, fun w' hb j hj => (hb.cell (p := ⟨b, off + j, none⟩) hlt).trans (hc j hj)⟩
end
theorem Frs.here {w w' : World} {base n : Nat} {A : Option Addr} {k : IntKind} {xs : List Int} (h : Frs w base A n k xs) (hb : Below w.heap.size w w') : Rd w' w'.heap.size A n k xs := (h.rd.keep hb (Nat.le_refl _)).more hb.size
theorem rd_here {w w' : World} {n : Nat} {A : Option Addr} {k : IntKind} {xs : List Int} (h : Rd w w.heap.size A n k xs) (hb : Below w.heap.size w w') : Rd w' w'.heap.size A n k xs := (h.keep hb (Nat.le_refl _)).more hb.size
end Go.Proofs.Ythaoebamnlmfpaa.Base
