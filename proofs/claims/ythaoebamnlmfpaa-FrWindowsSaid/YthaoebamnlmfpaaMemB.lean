/-
  Own text. More on slices of integers: append with what happens to other blocks; a slice of the call's own that lies elsewhere.
-/
import Derived.Test.YthaoebamnlmfpaaMem
namespace Go.Proofs.Ythaoebamnlmfpaa.Reg
open Go

/-- append onto a slice of the call's own, from a slice that is read; what happens to other blocks is told. -/
theorem append_abs2 {P : Program} {w : World} {ops : Array Oper} {rest : List Oper} {o : Oper} {a : Act} {Q : Exit → Act → World → Prop} (hgd : o.guard = none) (s x : Operand) (t : TypeId)
    (ho : o.op = .call { callee := .builtin .append, args := #[s, x], argTypes := #[t, t] })
    (base : Nat) (e : TypeId) (k : IntKind) (bytes : Nat) (ht : P.underlying t = some (.slice e)) (he : IntElem P e k bytes)
    (A : Option Addr) (n c : Nat) (xs : List Int) (hs : a.eval s = .slice A n c) (hown : Own w base e k A n c xs)
    (B : Nat) (A2 : Option Addr) (m c2 : Nat) (ys : List Int) (hx : a.eval x = .slice A2 m c2) (hr : Rd w B A2 m k ys)
    (N : Nat) (hN : n + m = N) (zs : List Int) (hzs : xs ++ ys = zs) (hbytes : N * bytes ≤ 140737488355328) (h63 : N ≤ maxLen) (hbase : base ≤ w.heap.size)
    (h : ∀ A' c' w', Own w' base e k A' N c' zs → RowKit.Below base w w' → (∀ q, q < w.heap.size → (∀ g, A = some ⟨g, 0, none⟩ → q ≠ g) → w'.heap[q]? = w.heap[q]?) → wpList P ops Q rest (a.put o.dst (.slice A' N c')) w') : wpList P ops Q (o :: rest) a w := by
  subst hN hzs
  obtain ⟨i, hi, hz, hsize, hby⟩ := he.get
  have hl := hr.len
  have hbel : ∀ w', w.grownBy w' (Value.slice A n c).ownBlock → RowKit.Below base w w' := fun w' hg =>
    ⟨hg.os, hg.tape, hg.output, hg.size, fun q hq => hg.block q (by omega) (fun he => by
      rcases hown.own.2 with ⟨hv, _⟩ | ⟨g, cap, cur, hv, hge, _⟩
      · rw [hv] at he; simp [Value.ownBlock] at he
      · rw [hv] at he; simp [Value.ownBlock] at he; omega)⟩
  have hfar : ∀ w', w.grownBy w' (Value.slice A n c).ownBlock → ∀ q, q < w.heap.size → (∀ g, A = some ⟨g, 0, none⟩ → q ≠ g) → w'.heap[q]? = w.heap[q]? := fun w' hg q hq hne => hg.block q hq (fun he => by
    rcases hown.own.2 with ⟨hv, _⟩ | ⟨g, cap, cur, hv, hge, _⟩
    · rw [hv] at he; simp [Value.ownBlock] at he
    · rw [hv] at he
      injection hv with e1 e2 e3
      simp [Value.ownBlock] at he
      exact hne g e1 he)
  rcases A2 with _ | ad
  · have hm : m = 0 := by
      rcases Nat.eq_zero_or_pos m with h0 | h0
      · exact h0
      · obtain ⟨b, off, he, _⟩ := hr.at_ h0; cases he
    subst hm
    obtain rfl : ys = [] := List.eq_nil_of_length_eq_zero hl
    have hrun : (Builtin.append_ #[t, t] o.type #[.slice A n c, .slice none 0 c2]).run P w = .ok (.slice A n c) w := by
      rcases hown.own.2 with ⟨hv, _⟩ | ⟨g, cap, cur, hv, _, _, hnc, _⟩
      · injection hv with e1 e2 e3; subst e1 e2 e3
        simp [Builtin.append_, run_underlying ht, sizeOf, typeInfo, hi, Builtin.lenOf, Builtin.firstCells]
      · injection hv with e1 e2 e3; subst e1 e3
        simp [Builtin.append_, run_underlying ht, sizeOf, typeInfo, hi, Builtin.lenOf, Builtin.firstCells, hnc, storeCells]
    refine wpList_plain hgd fun K hK => ?_
    unfold Oper.wp execOp
    simp only [ho, resolve, invoke, builtin, Sem.run_bind, Sem.run_pure, Result.andThen_ok, List.map_toArray, List.map_cons, List.map_nil, hs, hx, hrun]
    refine hK _ _ (h A c w (by simpa using hown) (RowKit.Below.refl _ _) (fun _ _ _ => rfl))
  · have hnews : ∀ (j : Nat) (u : Value), (ys.map (Value.int k))[j]? = some u → w.cell? (ad.add j) = some u := by
      rcases Nat.eq_zero_or_pos m with h0 | h0
      · obtain rfl : ys = [] := List.eq_nil_of_length_eq_zero (by omega)
        intro j u hu; simp at hu
      · obtain ⟨b, off, he, _⟩ := hr.at_ h0
        injection he with he
        subst he
        exact hr.src h0
    refine wpList_append_own_at w hgd s x t ho base e i (.int k 0) 1 bytes ht hi hz hsize hby rfl (by omega) _ n _ hs hown.own ad m c2 (ys.map (Value.int k)) hx (by simp [hl]) hnews (fun u hu => ?_) h63 hbytes hbase (fun v' w' h1 h2 _ _ => ?_)
    · obtain ⟨q, _, rfl⟩ := List.mem_map.1 hu
      rfl
    · rw [← List.map_append] at h1
      have hform : ∃ A' c', v' = .slice A' (n + m) c' := by
        rcases h1.2 with ⟨hv, h0⟩ | ⟨g, cap, cur, hv, _⟩
        · exact ⟨none, 0, by rw [hv, h0]⟩
        · exact ⟨_, _, hv⟩
      obtain ⟨A', c', rfl⟩ := hform
      exact h A' c' w' ⟨h1⟩ (hbel w' h2) (hfar w' h2)


/-- A slice of the call's own that lies in another block than what was turned. -/
theorem Own.rdFar {w w' : World} {base : Nat} {e : TypeId} {k : IntKind} {A : Option Addr} {n c : Nat} {xs : List Int} (h : Own w base e k A n c xs) (hsz : w.heap.size ≤ w'.heap.size)
    (hfar : ∀ q, base ≤ q → q < w.heap.size → w'.heap[q]? = w.heap[q]?) : Rd w' w'.heap.size A n k xs := by
  refine ⟨h.len, fun hn => ?_⟩
  rcases h.own.2 with ⟨_, h0⟩ | ⟨g, cap, cur, hv, hg, hh, hnc, hcm, hcs, htk⟩
  · omega
  · have hlt : g < w.heap.size := (Array.getElem?_eq_some_iff.1 hh).1
    obtain ⟨g', hA, hg', hlt', _, hc, _⟩ := h.at_ hn
    injection hv with e1 e2 e3
    have hgg : g = g' := by
      rw [hA] at e1
      injection e1 with e1
      injection e1 with e1 e2
      exact e1.symm
    subst hgg
    refine ⟨g, 0, hA, by omega, fun j hj => ?_⟩
    have h1 : w'.cell? ⟨g, j, none⟩ = cur[j]? := cell_of_row w' g j cur e (0, 0) ((hfar g hg hlt).trans hh)
    have h2 : w.cell? ⟨g, j, none⟩ = cur[j]? := cell_of_row w g j cur e (0, 0) hh
    rw [Nat.zero_add, h1, ← h2]
    exact hc j hj
theorem Own.le_cap {w : World} {base : Nat} {e : TypeId} {k : IntKind} {A : Option Addr} {n c : Nat} {xs : List Int} (h : Own w base e k A n c xs) : n ≤ c := by
  rcases h.own.2 with ⟨_, h0⟩ | ⟨g, cap, cur, hv, hg, hh, hnc, r⟩
  · omega
  · injection hv with e1 e2 e3; subst e3; exact hnc
theorem Own.block_lt {w : World} {base : Nat} {e : TypeId} {k : IntKind} {A : Option Addr} {n c : Nat} {xs : List Int} (h : Own w base e k A n c xs) {g : Nat} (hA : A = some ⟨g, 0, none⟩) : g < w.heap.size := by
  rcases h.own.2 with ⟨hv, _⟩ | ⟨g', cap, cur, hv, hg, hh, r⟩
  · injection hv with e1; rw [hA] at e1; cases e1
  · injection hv with e1
    rw [hA] at e1
    injection e1 with e1
    injection e1 with e1 e2
    subst e1
    exact (Array.getElem?_eq_some_iff.1 hh).1
theorem Rd.take_ {w : World} {B : Nat} {A : Option Addr} {n : Nat} {k : IntKind} {xs : List Int} (h : Rd w B A n k xs) {m : Nat} (hm : m ≤ n) : Rd w B A m k (xs.take m) :=
  ⟨by have := h.len; simp; omega, fun h0 => by
    obtain ⟨b, off, e, hb, hc⟩ := h.at_ (by omega)
    refine ⟨b, off, e, hb, fun j hj => ?_⟩
    rw [hc j (by omega)]
    simp [nth, List.getElem?_take_of_lt hj]⟩
end Go.Proofs.Ythaoebamnlmfpaa.Reg
