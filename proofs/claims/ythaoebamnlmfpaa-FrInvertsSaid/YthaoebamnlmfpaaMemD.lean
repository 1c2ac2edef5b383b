/-
  Own text. Slices whose elements are values of one cell (slices of slices): one that is read (Lst); append onto one of the call's own (OwnV).
-/
import Derived.Test.YthaoebamnlmfpaaMemC
import Derived.Deep.Onto
namespace Go.Proofs.Ythaoebamnlmfpaa.Reg
open Go

/-- A slice's n values, in cells below block B. -/
structure Lst (w : World) (B : Nat) (A : Option Addr) (n : Nat) (vs : List Value) : Prop where
  len : vs.length = n
  at_ : 0 < n → ∃ b off, A = some ⟨b, off, none⟩ ∧ b < B ∧ ∀ (j : Nat) (v : Value), vs[j]? = some v → w.cell? ⟨b, off + j, none⟩ = some v
section
variable {w w' : World} {B : Nat} {A : Option Addr} {n : Nat} {vs : List Value}
theorem Lst.keepB (h : Lst w B A n vs) (hb : RowKit.Below B w w') : Lst w' B A n vs :=
  ⟨h.len, fun hn => by
    obtain ⟨b, off, e, hlt, hc⟩ := h.at_ hn
    exact ⟨b, off, e, hlt, fun j v hv => (hb.cell (p := ⟨b, off + j, none⟩) hlt).trans (hc j v hv)⟩⟩
theorem Lst.keep (h : Lst w B A n vs) {B' : Nat} (hb : RowKit.Below B' w w') (hB : B ≤ B') : Lst w' B A n vs := h.keepB (hb.mono hB)
theorem Lst.more (h : Lst w B A n vs) {B' : Nat} (hB : B ≤ B') : Lst w B' A n vs :=
  ⟨h.len, fun hn => by
    obtain ⟨b, off, e, hlt, hc⟩ := h.at_ hn
    exact ⟨b, off, e, by omega, hc⟩⟩
theorem Lst.of_has {g : Nat} {t : TypeId} (h : Has w g t vs.toArray) (hg : g < B) (hn : vs.length = n) : Lst w B (some ⟨g, 0, none⟩) n vs :=
  ⟨hn, fun _ => ⟨g, 0, rfl, hg, fun j v hv => by
    rw [Nat.zero_add, h.cell j, List.getElem?_toArray]; exact hv⟩⟩
end

/-- A slice that the call itself made, of values of one cell. -/
structure OwnV (w : World) (base : Nat) (e : TypeId) (A : Option Addr) (n c : Nat) (vs : List Value) : Prop where
  own : w.ownsRow base e 1 (.slice A n c) n vs
section
variable {w w' : World} {base : Nat} {e : TypeId} {A : Option Addr} {n c : Nat} {vs : List Value}
theorem OwnV.of_has {g : Nat} (h : Has w g e vs.toArray) (hg : base ≤ g) (hm : vs.length ≤ maxLen) (hn : vs.length = n) : OwnV w base e (some ⟨g, 0, none⟩) n n vs := by
  subst hn
  exact ⟨by simp, .inr ⟨g, vs.length, vs.toArray, rfl, hg, h.eq, Nat.le_refl _, hm, by simp, by simp only [Nat.mul_one]; exact List.take_of_length_le (by simp)⟩⟩
theorem OwnV.lst (h : OwnV w base e A n c vs) : Lst w w.heap.size A n vs := by
  refine ⟨by simpa using h.own.1, fun hn => ?_⟩
  rcases h.own.2 with ⟨_, h0⟩ | ⟨g, cap, cur, hv, hg, hh, hnc, hcm, hcs, htk⟩
  · omega
  · injection hv with e1 e2 e3
    refine ⟨g, 0, e1, (Array.getElem?_eq_some_iff.1 hh).1, fun j v hj => ?_⟩
    rw [Nat.zero_add]
    have h1 : w.cell? ⟨g, j, none⟩ = cur[j]? := cell_of_row w g j cur e (0, 0) hh
    have hjn : j < n := by
      rcases Nat.lt_or_ge j vs.length with h2 | h2
      · have := h.own.1; omega
      · rw [List.getElem?_eq_none h2] at hj; cases hj
    rw [h1, ← hj, ← htk, List.getElem?_take_of_lt (by omega), Array.getElem?_toList]
theorem OwnV.keep (h : OwnV w base e A n c vs) (hb : RowKit.Below w.heap.size w w') : OwnV w' base e A n c vs := by
  refine ⟨h.own.1, ?_⟩
  rcases h.own.2 with h0 | ⟨g, cap, cur, hv, hg, hh, r⟩
  · exact .inl h0
  · exact .inr ⟨g, cap, cur, hv, hg, (hb.block g (Array.getElem?_eq_some_iff.1 hh).1).trans hh, r⟩
end

/-- append onto a slice of the call's own, from a slice that is read; n or more values. -/
theorem append_vs {P : Program} {w : World} {ops : Array Oper} {rest : List Oper} {o : Oper} {a : Act} {Q : Exit → Act → World → Prop} (hgd : o.guard = none) (s x : Operand) (t : TypeId)
    (ho : o.op = .call { callee := .builtin .append, args := #[s, x], argTypes := #[t, t] })
    (base : Nat) (e : TypeId) (i : TypeInfo) (z : Value) (bytes : Nat) (ht : P.underlying t = some (.slice e)) (hi : P.info? e = some i) (hz : i.zero = some z) (hsize : i.size = 1) (hby : i.bytes = bytes) (hzs : z.cells.size = 1)
    (A : Option Addr) (n c : Nat) (xs : List Value) (hs : a.eval s = .slice A n c) (hown : OwnV w base e A n c xs)
    (B : Nat) (A2 : Option Addr) (m c2 : Nat) (ys : List Value) (hx : a.eval x = .slice A2 m c2) (hr : Lst w B A2 m ys) (hm : 0 < m) (h1 : ∀ u ∈ ys, u.oneCell' = true)
    (N : Nat) (hN : n + m = N) (zs : List Value) (hzs' : xs ++ ys = zs) (hbytes : N * bytes ≤ 140737488355328) (h63 : N ≤ maxLen) (hbase : base ≤ w.heap.size)
    (h : ∀ A' c' w', OwnV w' base e A' N c' zs → RowKit.Below base w w' → wpList P ops Q rest (a.put o.dst (.slice A' N c')) w') : wpList P ops Q (o :: rest) a w := by
  subst hN hzs'
  obtain ⟨b, off, rfl, hlt, hc⟩ := hr.at_ hm
  have hbel : ∀ w', w.grownBy w' (Value.slice A n c).ownBlock → RowKit.Below base w w' := fun w' hg =>
    ⟨hg.os, hg.tape, hg.output, hg.size, fun q hq => hg.block q (by omega) (fun he => by
      rcases hown.own.2 with ⟨hv, _⟩ | ⟨g, cap, cur, hv, hge, _⟩
      · rw [hv] at he; simp [Value.ownBlock] at he
      · rw [hv] at he; simp [Value.ownBlock] at he; omega)⟩
  refine wpList_append_own_at w hgd s x t ho base e i z 1 bytes ht hi hz hsize hby hzs (by omega) _ n _ hs hown.own ⟨b, off, none⟩ m c2 ys hx (by rw [Nat.mul_one]; exact hr.len) (fun j u hu => ?_) h1 h63 hbytes hbase (fun v' w' h1 h2 _ _ => ?_)
  · have hadd : (⟨b, off, none⟩ : Addr).add j = ⟨b, off + j, none⟩ := by unfold Addr.add; split <;> simp_all
    rw [hadd]; exact hc j u hu
  · have hform : ∃ A' c', v' = .slice A' (n + m) c' := by
      rcases h1.2 with ⟨hv, h0⟩ | ⟨g, cap, cur, hv, _⟩
      · exact ⟨none, 0, by rw [hv, h0]⟩
      · exact ⟨_, _, hv⟩
    obtain ⟨A', c', rfl⟩ := hform
    exact h A' c' w' ⟨h1⟩ (hbel w' h2)

/-- The beginning of a slice of the call's own. -/
theorem Own.cut {w : World} {base : Nat} {e : TypeId} {k : IntKind} {A : Option Addr} {n c : Nat} {xs : List Int} (h : Own w base e k A n c xs) {m : Nat} (hm : m ≤ n) : Own w base e k A m c (xs.take m) := by
  have hl := h.len
  refine ⟨by simp; omega, ?_⟩
  rcases h.own.2 with ⟨hv, h0⟩ | ⟨g, cap, cur, hv, hg, hh, hnc, hcm, hcs, htk⟩
  · injection hv with e1 e2 e3
    subst h0
    obtain rfl : m = 0 := by omega
    exact .inl ⟨by rw [e1, e3], rfl⟩
  · injection hv with e1 e2 e3
    subst e1 e3
    refine .inr ⟨g, c, cur, rfl, hg, hh, by omega, hcm, hcs, ?_⟩
    rw [Nat.mul_one] at htk ⊢
    rw [List.map_take, ← htk, List.take_take, Nat.min_eq_left hm]

/-- make([]T, 0, n) of numbers. -/
theorem run_make_cap {P : Program} (w : World) (t e : TypeId) (k : IntKind) (ht : P.underlying t = some (.slice e)) {bytes : Nat} (he : IntElem P e k bytes)
    (kl kc : IntKind) (n : Nat) (hbytes : bytes * n ≤ 281474976710656) (h63 : n ≤ 9223372036854775807) :
    (Instr.makeSlice t (.int kl 0) (.int kc n)).run P w = .ok (.slice (some ⟨w.heap.size, 0, none⟩) 0 n) (w.alloc (.cells (vals k (List.replicate n 0)) e)) := by
  obtain ⟨i, hi, hz, hs, hby⟩ := he.get
  have hb' : ((bytes * n : Nat) : Int) ≤ 281474976710656 := by omega
  have hr := run_make (P := P) w t e i (.int k 0) ht hi hz kl kc 0 n (by omega) (by omega) (by rw [hby]; rwa [Int.natCast_mul] at hb') (by omega)
  rw [hr, hs]
  have : madeCells (Value.int k 0).cells (((n : Int)).toNat * 1) = vals k (List.replicate n 0) := by
    apply Array.ext
    · simp [madeCells, vals]
    · intro j h1 h2
      simp [madeCells, vals, Value.cells, Nat.mod_one]
  rw [this]
  simp
theorem Own.of_made {w : World} {g c : Nat} {e : TypeId} {k : IntKind} {base : Nat} (h : Has w g e (vals k (List.replicate c 0))) (hg : base ≤ g) (hm : c ≤ maxLen) : Own w base e k (some ⟨g, 0, none⟩) 0 c [] :=
  ⟨by simp, .inr ⟨g, c, _, rfl, hg, h.eq, Nat.zero_le _, hm, by simp [vals], by simp⟩⟩

/-- A store into a slice of the call's own. -/
theorem Own.set_ {w : World} {base g n c : Nat} {e : TypeId} {k : IntKind} {xs : List Int} (h : Own w base e k (some ⟨g, 0, none⟩) n c xs) {j : Nat} (_hj : j < n) (x : Int) :
    Own (w.setCell ⟨g, j, none⟩ (.int k x)) base e k (some ⟨g, 0, none⟩) n c (xs.set j x) := by
  refine ⟨by simpa using h.own.1, ?_⟩
  rcases h.own.2 with ⟨hv, _⟩ | ⟨g', cap, cur, hv, hg, hh, hnc, hcm, hcs, htk⟩
  · cases hv
  · injection hv with e1 e2 e3
    injection e1 with e1
    injection e1 with e1
    subst e1 e3
    refine .inr ⟨g, c, cur.setIfInBounds j (.int k x), rfl, hg, heap_setCell_same w g j cur e _ hh, hnc, hcm, by simpa using hcs, ?_⟩
    rw [Nat.mul_one] at htk ⊢
    rw [Array.toList_setIfInBounds, List.take_set, htk, List.map_set]

/-- One part of a join: a slice of bytes and what is read there. -/
structure Part where
  A : Option Addr
  n : Nat
  c : Nat
  bs : List Int
def Part.val (p : Part) : Value := .slice p.A p.n p.c
def joinL (ps : List Part) : List Int := (ps.map Part.bs).flatten
theorem joinL_cons (p : Part) (ps : List Part) : joinL (p :: ps) = p.bs ++ joinL ps := rfl
theorem joinL_nil : joinL [] = [] := rfl
theorem joinL_succ (ps : List Part) {k : Nat} {p : Part} (hp : ps[k]? = some p) : joinL (ps.take k) ++ p.bs = joinL (ps.take (k + 1)) := by
  obtain ⟨hk, he⟩ := List.getElem?_eq_some_iff.1 hp
  rw [List.take_succ_eq_append_getElem hk, he]
  simp [joinL]
theorem joinL_take_le (ps : List Part) (k : Nat) : (joinL (ps.take k)).length ≤ (joinL ps).length := by
  have h : joinL ps = joinL (ps.take k) ++ joinL (ps.drop k) := by
    rw [joinL, joinL, joinL, ← List.flatten_append, ← List.map_append, List.take_append_drop]
  rw [h, List.length_append]; omega
theorem part_one (ps : List Part) : ∀ u ∈ ps.map Part.val, u.oneCell' = true := fun u hu => by
  obtain ⟨p, _, rfl⟩ := List.mem_map.1 hu
  rfl
end Go.Proofs.Ythaoebamnlmfpaa.Reg
