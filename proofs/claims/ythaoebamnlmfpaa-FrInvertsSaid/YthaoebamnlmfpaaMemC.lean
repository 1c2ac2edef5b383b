/-
  Own text. append of noughts ('append(x, make([]T, m)...)') onto a slice of the call's own.
-/
import Derived.Test.YthaoebamnlmfpaaMemB
import Derived.Lib.AppendZeros
namespace Go.Proofs.Ythaoebamnlmfpaa.Reg
open Go

theorem zeroCells_int (k : IntKind) (m : Nat) : Builtin.zeroCells (Value.int k 0).cells m = ((List.replicate m (0 : Int)).map (Value.int k)).toArray := by
  apply Array.ext
  · simp [Builtin.zeroCells, Value.cells]
  · intro j h1 h2
    simp [Builtin.zeroCells, Value.cells, Nat.mod_one]

theorem run_append_zeros {P : Program} (w : World) (base : Nat) (t tn ty e : TypeId) (k kk kn : IntKind) {bytes : Nat} (ht : P.underlying t = some (.slice e)) (htn : P.underlying tn = some (.int kn)) (he : IntElem P e k bytes)
    (g n c : Nat) (xs : List Int) (hown : Own w base e k (some ⟨g, 0, none⟩) n c xs) (m : Nat) (h63 : n + m ≤ maxLen) (hbytes : (n + m) * bytes ≤ 140737488355328) (hbase : base ≤ w.heap.size) :
    ∃ A' c' w', (Builtin.append_ #[t, tn] ty #[.slice (some ⟨g, 0, none⟩) n c, .int kk m]).run P w = .ok (.slice A' (n + m) c') w' ∧ Own w' base e k A' (n + m) c' (xs ++ List.replicate m 0) ∧ w.grownBy w' (some g) := by
  obtain ⟨i, hi, hz, hs, hby⟩ := he.get
  subst hby
  have hsm : n + m ≤ 9223372036854775807 := by simp only [maxLen] at h63; omega
  have hw : IntKind.i64.wrap (m : Int) = m := by rw [IntKind.wrap_i64]; omega
  have hneg : ¬ ((m : Int) < 0) := by omega
  have hmb : m * i.bytes ≤ (n + m) * i.bytes := Nat.mul_le_mul_right _ (by omega)
  have h48i : ¬ (281474976710656 < (m : Int) * (i.bytes : Int)) := by
    rw [← Int.natCast_mul]
    omega
  have hlen := hown.len
  rcases hown.own.2 with ⟨hv, _⟩ | ⟨g', cap, cur, hv, hbg, hg, hnc, hcm, hcs, htake⟩
  · cases hv
  · injection hv with e1 e2 e3
    injection e1 with e1
    injection e1 with e1
    subst e1 e3
    rw [Nat.mul_one] at htake hcs
    rcases Nat.eq_zero_or_pos m with h0 | h0
    · subst h0
      refine ⟨some ⟨g, 0, none⟩, c, w, ?_, by simpa using hown, ⟨rfl, rfl, rfl, Nat.le_refl _, fun _ _ _ => rfl⟩⟩
      simp [Builtin.append_, run_underlying ht, run_underlying htn, sizeOf, typeInfo, hi, asInt, asIntOf, IntKind.wrap_i64, hnc, storeCells]
    · have hm0 : m ≠ 0 := by omega
      have hnews : Builtin.zeroCells (Value.int k 0).cells m = ((List.replicate m (0 : Int)).map (Value.int k)).toArray := zeroCells_int k m
      by_cases hroom : n + m ≤ c
      · have h1 : ∀ u ∈ (List.replicate m (0 : Int)).map (Value.int k), u.oneCell' = true := fun u hu => by
          obtain ⟨q, _, rfl⟩ := List.mem_map.1 hu
          rfl
        have hst := run_storeCells_at P g n e ((List.replicate m (0 : Int)).map (Value.int k)) 0 cur w hg (by simp; omega) h1
        simp only [Nat.add_zero] at hst
        have hsz : ((List.replicate m (0 : Int)).map (Value.int k)).length = m := by simp
        obtain ⟨zs, hzs⟩ : ∃ zs, (List.replicate m (0 : Int)).map (Value.int k) = zs := ⟨_, rfl⟩
        rw [hzs] at hst hsz hnews
        refine ⟨some ⟨g, 0, none⟩, c, w.setRow g (cur.toList.take n ++ zs ++ cur.toList.drop (n + zs.length)).toArray, ?_, ⟨by simp [hlen], .inr ⟨g, c, _, rfl, hbg, setRow_heap w g cur _ e _ hg, hroom, hcm, ?_, ?_⟩⟩, ⟨rfl, rfl, rfl, by simp, fun q _ hq => setRow_other w g q _ (fun e => hq (by simp [e]))⟩⟩
        · simp [Builtin.append_, run_underlying ht, run_underlying htn, sizeOf, typeInfo, zeroValue, hi, hz, hs, asInt, asIntOf, hw, hneg, h48i, hm0, hroom, Addr.add_lit, hnews, hst]
        · simp only [List.size_toArray, List.length_append, List.length_take, List.length_drop, Array.length_toList]
          omega
        · rw [Nat.mul_one, htake, List.map_append, hzs]
          refine List.take_left' ?_
          simp [hlen, hsz]
      · have hn : ¬ (n + m ≤ c) := hroom
        have h63' : ¬ (9223372036854775807 < ((n : Int) + (m : Int))) := by omega
        have h48' : ¬ (281474976710656 < Builtin.nextslicecap (n + m) c * i.bytes) := by have := growslice_fits (old := c) (need := n + m) (by omega) hbytes; omega
        have holds : ∀ j u, (xs.map (Value.int k))[j]? = some u → w.cell? ((⟨g, 0, none⟩ : Addr).add j) = some u := hown.own.cells (g := g) rfl
        have hfo := run_firstCells_some (P := P) w.drew i.size n ⟨g, 0, none⟩ n c (xs.map (Value.int k)) (by simp [hlen, hs]) (by simpa using holds)
        rw [hs] at hfo
        have hge := grownCap_ge w (n + m) c e
        have hcm' : grownCap w (n + m) c e ≤ maxLen := grownCap_le_maxLen w (n + m) c e h63
        refine ⟨some ⟨w.heap.size, 0, none⟩, grownCap w (n + m) c e, w.drew.alloc (.cells ((xs.map (Value.int k)).toArray ++ ((List.replicate m (0 : Int)).map (Value.int k)).toArray ++ Builtin.zeroCells (Value.int k 0).cells (grownCap w (n + m) c e - (n + m))) e), ?_, ⟨by simp [hlen], .inr ⟨w.heap.size, _, _, rfl, hbase, heap_alloc_new w.drew _, hge, hcm', ?_, ?_⟩⟩, ⟨rfl, rfl, rfl, by simp, fun q hq _ => old_alloc w.drew _ q hq⟩⟩
        · simp [Builtin.append_, run_underlying ht, run_underlying htn, sizeOf, typeInfo, zeroValue, hi, hz, hs, asInt, asIntOf, hw, hneg, h48i, hm0, hn, h63', h48', Question.forced, hfo, newRow, grownCap, hnews]
        · simp only [Array.size_append, List.size_toArray, size_zeroCells, List.length_map, List.length_replicate, hlen]
          simp [Value.cells]
          omega
        · simp only [Array.toList_append, Nat.mul_one, List.map_append]
          refine List.take_left' ?_
          simp [hlen]

theorem run_append_zeros_any {P : Program} (w : World) (base : Nat) (t tn ty e : TypeId) (k kk kn : IntKind) {bytes : Nat} (ht : P.underlying t = some (.slice e)) (htn : P.underlying tn = some (.int kn)) (he : IntElem P e k bytes)
    (A : Option Addr) (n c : Nat) (xs : List Int) (hown : Own w base e k A n c xs) (m : Nat) (h63 : n + m ≤ maxLen) (hbytes : (n + m) * bytes ≤ 140737488355328) (hbase : base ≤ w.heap.size) :
    ∃ A' c' w', (Builtin.append_ #[t, tn] ty #[.slice A n c, .int kk m]).run P w = .ok (.slice A' (n + m) c') w' ∧ Own w' base e k A' (n + m) c' (xs ++ List.replicate m 0) ∧ RowKit.Below base w w' := by
  rcases hown.own.2 with ⟨hv, _⟩ | ⟨g, cap, cur, hv, hbg, _⟩
  · obtain ⟨i, hi, hz, hs, hby⟩ := he.get
    subst hby
    injection hv with e1 e2 e3
    subst e1 e2 e3
    have hx : xs = [] := List.eq_nil_of_length_eq_zero hown.len
    subst hx
    rcases Nat.eq_zero_or_pos m with h0 | h0
    · subst h0
      refine ⟨none, 0, w, ?_, by simpa using hown, RowKit.Below.refl _ _⟩
      simp [Builtin.append_, run_underlying ht, run_underlying htn, sizeOf, typeInfo, hi, asInt, asIntOf, IntKind.wrap_i64]
    · rw [Nat.zero_add] at h63 hbytes
      have hr := Lib.run_append_nil_zeros (P := P) w t tn ty e i (.int k 0) kk kn ht htn hi hz m h0 (by omega) (by simp only [maxLen] at h63; omega) (by omega)
      rw [zeroCells_int] at hr
      rw [Nat.zero_add]
      refine ⟨_, _, _, hr, ?_, ⟨rfl, rfl, rfl, by simp, fun q hq => old_alloc w.drew _ q (show q < w.heap.size by omega)⟩⟩
      have hge := grownCap_ge w m 0 e
      refine ⟨by simp, .inr ⟨w.heap.size, _, _, rfl, hbase, heap_alloc_new w.drew _, hge, grownCap_le_maxLen w m 0 e h63, ?_, ?_⟩⟩
      · simp only [Array.size_append, List.size_toArray, size_zeroCells, List.length_map, List.length_replicate]
        simp [Value.cells]
        omega
      · simp only [Array.toList_append, Nat.mul_one, List.nil_append]
        refine List.take_left' ?_
        simp
  · injection hv with e1 e2 e3
    subst e1
    obtain ⟨A', c', w', h1, h2, h3⟩ := run_append_zeros w base t tn ty e k kk kn ht htn he g n c xs hown m h63 hbytes hbase
    exact ⟨A', c', w', h1, h2, ⟨h3.os, h3.tape, h3.output, h3.size, fun q hq => h3.block q (by omega) (fun he => by injection he with he; omega)⟩⟩

theorem append_zeros_abs {P : Program} {w : World} {ops : Array Oper} {rest : List Oper} {o : Oper} {a : Act} {Q : Exit → Act → World → Prop} (hgd : o.guard = none) (s x : Operand) (t tn : TypeId)
    (ho : o.op = .call { callee := .builtin .append, args := #[s, x], argTypes := #[t, tn] })
    (base : Nat) (e : TypeId) (k kn : IntKind) (bytes : Nat) (ht : P.underlying t = some (.slice e)) (htn : P.underlying tn = some (.int kn)) (he : IntElem P e k bytes)
    (A : Option Addr) (n c : Nat) (xs : List Int) (hs : a.eval s = .slice A n c) (hown : Own w base e k A n c xs)
    (kk : IntKind) (m : Nat) (hx : a.eval x = .int kk m)
    (N : Nat) (hN : n + m = N) (zs : List Int) (hzs : xs ++ List.replicate m 0 = zs) (hbytes : N * bytes ≤ 140737488355328) (h63 : N ≤ maxLen) (hbase : base ≤ w.heap.size)
    (h : ∀ A' c' w', Own w' base e k A' N c' zs → RowKit.Below base w w' → wpList P ops Q rest (a.put o.dst (.slice A' N c')) w') : wpList P ops Q (o :: rest) a w := by
  subst hN hzs
  obtain ⟨A', c', w', hr, h2, h3⟩ := run_append_zeros_any w base t tn o.type e k kk kn ht htn he A n c xs hown m h63 hbytes hbase
  exact Lib.wpList_append_run w hgd s x t tn ho _ _ hs hx _ w' hr (h A' c' w' h2 h3)
end Go.Proofs.Ythaoebamnlmfpaa.Reg
