/-
  Own text. Slices of integers: one that is read (Rd), one that the call itself made and appends to (Own); laws for make, copy and append in these words.
-/
import Derived.Test.YthaoebamnlmfpaaReg
import Derived.Maps.AppendAt
import Derived.Deep.AppendLies
import Derived.Laws.MakeOwn
import Derived.ChangeKeysEq
import Derived.Laws.StructEq
namespace Go.Proofs.Ythaoebamnlmfpaa.Reg
open Go

/-- A whole row stored; the world behind it is a variable; below the row nothing has turned. -/
theorem store_abs2 {P : Program} {w : World} {ops : Array Oper} {rest : List Oper} {o : Oper} {a : Act} {Q : Exit → Act → World → Prop} (hgd : o.guard = none) (ty : TypeId) (x y : Operand) (ho : o.op = .store ty x y)
    (hd : o.dst = none) (g : Nat) (cells : Array Value) (hx : a.eval x = .pointer (some ⟨g, 0, none⟩)) (hy : a.eval y = .agg cells)
    (t : TypeId) (old : Array Value) (hg : Has w g t old) (hi : (P.info? ty).map (·.size) = some cells.size)
    (hold : old.size = cells.size) (h1 : cells.all (·.oneCell') = true)
    (h : ∀ w', Has w' g t cells → (∀ g' t' cs', Has w g' t' cs' → g' ≠ g → Has w' g' t' cs') → RowKit.Below g w w' → wpList P ops Q rest a w') : wpList P ops Q (o :: rest) a w :=
  wpList_store_rowTo hgd ty x y ho hd g cells hx hy t old hg.eq hi hold h1 (h _ (hg.row cells) (fun _ _ _ hh hne => hh.rowFar hne cells) (below_row (RowKit.Below.refl _ _) (Nat.le_refl _) cells))
/-- A slice's n numbers, in cells below block B. -/
structure Rd (w : World) (B : Nat) (A : Option Addr) (n : Nat) (k : IntKind) (xs : List Int) : Prop where
  len : xs.length = n
  at_ : 0 < n → ∃ b off, A = some ⟨b, off, none⟩ ∧ b < B ∧ ∀ j, j < n → w.cell? ⟨b, off + j, none⟩ = some (.int k (nth xs j))
section
variable {w w' : World} {B b off : Nat} {A : Option Addr} {n : Nat} {k : IntKind} {xs : List Int}
theorem Rd.keepB (h : Rd w B A n k xs) (hb : RowKit.Below B w w') : Rd w' B A n k xs :=
  ⟨h.len, fun hn => by
    obtain ⟨b, off, e, hlt, hc⟩ := h.at_ hn
    exact ⟨b, off, e, hlt, fun j hj => (hb.cell (p := ⟨b, off + j, none⟩) hlt).trans (hc j hj)⟩⟩
theorem Rd.keep (h : Rd w B A n k xs) {B' : Nat} (hb : RowKit.Below B' w w') (hB : B ≤ B') : Rd w' B A n k xs := h.keepB (hb.mono hB)
theorem Rd.more (h : Rd w B A n k xs) {B' : Nat} (hB : B ≤ B') : Rd w B' A n k xs :=
  ⟨h.len, fun hn => by
    obtain ⟨b, off, e, hlt, hc⟩ := h.at_ hn
    exact ⟨b, off, e, by omega, hc⟩⟩
theorem Rd.of_has {g : Nat} {t : TypeId} {off m : Nat} {ys : List Int} (h : Has w g t (vals k xs)) (hg : g < B) (hy : ys = (xs.drop off).take m) (hm : off + m ≤ xs.length) : Rd w B (some ⟨g, off, none⟩) m k ys :=
  ⟨by subst hy; simp; omega, fun _ => ⟨g, off, rfl, hg, fun j hj => by
    have := h.val (i := off + j) (by omega)
    rw [this]; subst hy
    simp [nth, List.getElem?_take_of_lt hj]⟩⟩
theorem Rd.get0 {g : Nat} (h : Rd w B (some ⟨g, 0, none⟩) n k xs) {j : Nat} (hj : j < n) : w.cell? ⟨g, j, none⟩ = some (.int k (nth xs j)) := by
  obtain ⟨b, off', e, _, hc⟩ := h.at_ (by omega)
  injection e with e
  injection e with e1 e2
  subst e1 e2
  have := hc j hj
  rwa [Nat.zero_add] at this
theorem Rd.lt {g o : Nat} (h : Rd w B (some ⟨g, o, none⟩) n k xs) (hn : 0 < n) : g < B := by
  obtain ⟨b, off', e, hb, _⟩ := h.at_ hn
  injection e with e
  injection e with e1 e2
  omega
theorem Rd.nil_ : Rd w B A 0 k [] := ⟨rfl, fun h => absurd h (by omega)⟩
theorem Rd.src (h : Rd w B (some (⟨b, off, none⟩ : Addr)) n k xs) (hn : 0 < n) : ∀ (j : Nat) (v : Value), (xs.map (Value.int k))[j]? = some v → w.cell? ((⟨b, off, none⟩ : Addr).add j) = some v := by
  intro j v hv
  obtain ⟨b', off', e, _, hc⟩ := h.at_ hn
  injection e with e
  injection e with e1 e2
  subst e1 e2
  have hadd : (⟨b, off, none⟩ : Addr).add j = ⟨b, off + j, none⟩ := by unfold Addr.add; split <;> simp_all
  have hj : j < xs.length := by
    rcases Nat.lt_or_ge j xs.length with h | h
    · exact h
    · rw [List.getElem?_eq_none (by simpa using h)] at hv; cases hv
  rw [hadd, hc j (by have := h.len; omega)]
  rw [List.getElem?_map, List.getElem?_eq_getElem hj] at hv
  rw [← hv]
  simp [nth, hj]
end

/-- A slice that the call made itself: its numbers lie at the head of a row from block 'base' on. -/
structure Own (w : World) (base : Nat) (e : TypeId) (k : IntKind) (A : Option Addr) (n c : Nat) (xs : List Int) : Prop where
  own : w.ownsRow base e 1 (.slice A n c) n (xs.map (Value.int k))
section
variable {w w' : World} {base : Nat} {e : TypeId} {A : Option Addr} {n c : Nat} {k : IntKind} {xs : List Int}
theorem Own.len (h : Own w base e k A n c xs) : xs.length = n := by have := h.own.1; simpa using this
theorem Own.capMax (h : Own w base e k A n c xs) : n ≤ c ∨ A = none := by
  rcases h.own.2 with ⟨he, _⟩ | ⟨g, cap, cur, hv, hg, hh, hnc, hcm, hcs, htk⟩
  · injection he with e1 e2 e3; exact .inr e1
  · injection hv with e1 e2 e3; subst e3; exact .inl hnc
theorem Own.at_ (h : Own w base e k A n c xs) (hn : 0 < n) : ∃ g, A = some ⟨g, 0, none⟩ ∧ base ≤ g ∧ g < w.heap.size ∧ n ≤ c ∧ (∀ j, j < n → w.cell? ⟨g, j, none⟩ = some (.int k (nth xs j))) ∧ (∀ j, w.frozen? ⟨g, j, none⟩ = false) := by
  have hl := h.len
  rcases h.own.2 with ⟨_, h0⟩ | ⟨g, cap, cur, hv, hg, hh, hnc, hcm, hcs, htk⟩
  · omega
  · injection hv with e1 e2 e3
    subst e1 e3
    have hlt : g < w.heap.size := (Array.getElem?_eq_some_iff.1 hh).1
    refine ⟨g, rfl, hg, hlt, hnc, fun j hj => ?_, fun j => ?_⟩
    · have h1 : w.cell? ⟨g, j, none⟩ = cur[j]? := cell_of_row w g j cur e (0, 0) hh
      rw [h1]
      have h2 : (cur.toList.take (n * 1))[j]? = cur[j]? := by
        rw [List.getElem?_take_of_lt (by omega), Array.getElem?_toList]
      rw [← h2, htk, List.getElem?_map, List.getElem?_eq_getElem (by omega)]
      simp [nth, hl, hj]
    · exact frozen_of_row w g j cur e hh
theorem Own.rd (h : Own w base e k A n c xs) : Rd w w.heap.size A n k xs :=
  ⟨h.len, fun hn => by
    obtain ⟨g, hA, _, hlt, _, hc, _⟩ := h.at_ hn
    exact ⟨g, 0, hA, hlt, fun j hj => by rw [Nat.zero_add]; exact hc j hj⟩⟩
theorem Own.keep (h : Own w base e k A n c xs) (hb : RowKit.Below w.heap.size w w') : Own w' base e k A n c xs := by
  refine ⟨h.own.1, ?_⟩
  rcases h.own.2 with h0 | ⟨g, cap, cur, hv, hg, hh, r⟩
  · exact .inl h0
  · exact .inr ⟨g, cap, cur, hv, hg, (hb.block g (Array.getElem?_eq_some_iff.1 hh).1).trans hh, r⟩
theorem Own.of_has {g : Nat} (h : Has w g e (vals k xs)) (hg : base ≤ g) (hm : xs.length ≤ maxLen) : Own w base e k (some ⟨g, 0, none⟩) xs.length xs.length xs :=
  ⟨by simp, .inr ⟨g, xs.length, vals k xs, rfl, hg, h.eq, Nat.le_refl _, hm, by simp [vals], by simp only [vals, Nat.mul_one]; exact List.take_of_length_le (by simp)⟩⟩
end

/-- What is asked of an element's type. -/
structure IntElem (P : Program) (e : TypeId) (k : IntKind) (bytes : Nat) : Prop where
  get : ∃ i, P.info? e = some i ∧ i.zero = some (.int k 0) ∧ i.size = 1 ∧ i.bytes = bytes
theorem IntElem.of {P : Program} {e : TypeId} {k : IntKind} {bytes : Nat} (h1 : (P.info? e).map (fun i => (i.size, i.bytes)) = some (1, bytes)) (h2 : (P.info? e).bind (·.zero) = some (.int k 0)) : IntElem P e k bytes := by
  cases hi : P.info? e with
  | none => rw [hi] at h1; cases h1
  | some i =>
    rw [hi] at h1 h2
    simp at h1
    exact ⟨i, hi, h2, h1.1, h1.2⟩
/-- make([]T, n) of numbers. -/
theorem run_make_vals {P : Program} (w : World) (t e : TypeId) (k : IntKind) (ht : P.underlying t = some (.slice e)) {bytes : Nat} (he : IntElem P e k bytes)
    (kl kc : IntKind) (n : Nat) (hbytes : bytes * n ≤ 281474976710656) (h63 : n ≤ 9223372036854775807) :
    (Instr.makeSlice t (.int kl n) (.int kc n)).run P w = .ok (.slice (some ⟨w.heap.size, 0, none⟩) n n) (w.alloc (.cells (vals k (List.replicate n 0)) e)) := by
  obtain ⟨i, hi, hz, hs, hby⟩ := he.get
  have hb' : ((bytes * n : Nat) : Int) ≤ 281474976710656 := by omega
  have hr := run_make (P := P) w t e i (.int k 0) ht hi hz kl kc n n (by omega) (Int.le_refl _) (by rw [hby]; rwa [Int.natCast_mul] at hb') (by omega)
  rw [hr, hs]
  have : madeCells (Value.int k 0).cells (((n : Int)).toNat * 1) = vals k (List.replicate n 0) := by
    apply Array.ext
    · simp [madeCells, vals]
    · intro j h1 h2
      simp [madeCells, vals, Value.cells, Nat.mod_one]
  rw [this]
  simp

/-- copy into a row that is known whole, from a slice that is read. -/
theorem copy_rd {P : Program} {w : World} {ops : Array Oper} {rest : List Oper} {o : Oper} {a : Act} {Q : Exit → Act → World → Prop} (hgd : o.guard = none) (d s : Operand) (dT sT : TypeId)
    (ho : o.op = .call { callee := .builtin .copy, args := #[d, s], argTypes := #[dT, sT] }) (elem : TypeId) (hu : P.underlying dT = some (.slice elem)) (hsz : (P.info? elem).map (·.size) = some 1)
    (g off dLen dCap : Nat) (A : Option Addr) (sLen sCap : Nat) (hd : a.eval d = .slice (some ⟨g, off, none⟩) dLen dCap) (hs : a.eval s = .slice A sLen sCap)
    (k : IntKind) (t : TypeId) (xs cs : List Int) (B : Nat) (hg : Has w g t (vals k xs)) (hr : Rd w B A sLen k cs) (hn : sLen ≤ dLen)
    (hfit : off + sLen ≤ xs.length) (base : Nat) (w0 : World) (hb : RowKit.Below base w0 w) (hB : base ≤ g)
    (h : ∀ w', Has w' g t (vals k (xs.take off ++ (cs ++ xs.drop (off + cs.length)))) → (∀ g' t' cs', Has w g' t' cs' → g' ≠ g → Has w' g' t' cs') → RowKit.Below base w0 w' → wpList P ops Q rest (a.put o.dst (goInt cs.length)) w') :
    wpList P ops Q (o :: rest) a w := by
  have hl := hr.len
  by_cases h0 : sLen = 0
  · obtain rfl : cs = [] := List.eq_nil_of_length_eq_zero (by omega)
    refine wpList_copy_nothing hgd d s dT sT ho elem hu hsz _ _ _ _ _ _ hd hs (by subst h0; exact Nat.zero_min _) ?_
    exact h w (by simpa using hg) (fun _ _ _ hh _ => hh) hb
  · obtain ⟨b, o', rfl, _, _⟩ := hr.at_ (by omega)
    refine wpList_copy_own hgd d s dT sT ho elem hu hsz g off dLen dCap ⟨b, o', none⟩ sLen sCap hd hs (vals k xs) t hg.eq (cs.map (Value.int k)) (by simp only [List.length_map, hl]; exact (Nat.min_eq_left hn).symm) (hr.src (by omega)) (by simp [vals_size, hl]; exact hfit) (fun v hv => ?_) ?_
    · obtain ⟨x, _, rfl⟩ := List.mem_map.1 hv
      rfl
    · have := h (w.setRow g (vals k (xs.take off ++ (cs ++ xs.drop (off + cs.length))))) (hg.row _) (fun _ _ _ hh hne => hh.rowFar hne _) (below_row hb hB _)
      simpa [vals] using this

/-- append onto a slice of the call's own, from a slice that is read. -/
theorem append_abs {P : Program} {w : World} {ops : Array Oper} {rest : List Oper} {o : Oper} {a : Act} {Q : Exit → Act → World → Prop} (hgd : o.guard = none) (s x : Operand) (t : TypeId)
    (ho : o.op = .call { callee := .builtin .append, args := #[s, x], argTypes := #[t, t] })
    (base : Nat) (e : TypeId) (k : IntKind) (bytes : Nat) (ht : P.underlying t = some (.slice e)) (he : IntElem P e k bytes)
    (A : Option Addr) (n c : Nat) (xs : List Int) (hs : a.eval s = .slice A n c) (hown : Own w base e k A n c xs)
    (B : Nat) (A2 : Option Addr) (m c2 : Nat) (ys : List Int) (hx : a.eval x = .slice A2 m c2) (hr : Rd w B A2 m k ys)
    (N : Nat) (hN : n + m = N) (zs : List Int) (hzs : xs ++ ys = zs) (hbytes : N * bytes ≤ 140737488355328) (h63 : N ≤ maxLen) (hbase : base ≤ w.heap.size)
    (h : ∀ A' c' w', Own w' base e k A' N c' zs → RowKit.Below base w w' → wpList P ops Q rest (a.put o.dst (.slice A' N c')) w') : wpList P ops Q (o :: rest) a w := by
  subst hN hzs
  obtain ⟨i, hi, hz, hsize, hby⟩ := he.get
  have hl := hr.len
  have hbel : ∀ w', w.grownBy w' (Value.slice A n c).ownBlock → RowKit.Below base w w' := fun w' hg =>
    ⟨hg.os, hg.tape, hg.output, hg.size, fun q hq => hg.block q (by omega) (fun he => by
      rcases hown.own.2 with ⟨hv, _⟩ | ⟨g, cap, cur, hv, hge, _⟩
      · rw [hv] at he; simp [Value.ownBlock] at he
      · rw [hv] at he; simp [Value.ownBlock] at he; omega)⟩
  rcases A2 with _ | ad
  · have hm : m = 0 := by
      rcases Nat.eq_zero_or_pos m with h0 | h0
      · exact h0
      · obtain ⟨b, off, he, _⟩ := hr.at_ h0; cases he
    subst hm
    obtain rfl : ys = [] := List.eq_nil_of_length_eq_zero hl
    have hrun : (Builtin.append_ #[t, t] o.type #[.slice A n c, .slice none 0 c2]).run P w = .ok (.slice A n c) w := by
      rcases hown.own.2 with ⟨hv, _⟩ | ⟨g, cap, cur, hv, _, _, hnc, _⟩
      · injection hv with e1 e2 e3; subst e1 e2 e3
        simp [Builtin.append_, run_underlying ht, sizeOf, typeInfo, hi, Builtin.lenOf, Builtin.firstCells]
      · injection hv with e1 e2 e3; subst e1 e3
        simp [Builtin.append_, run_underlying ht, sizeOf, typeInfo, hi, Builtin.lenOf, Builtin.firstCells, hnc, storeCells]
    refine wpList_plain hgd fun K hK => ?_
    unfold Oper.wp execOp
    simp only [ho, resolve, invoke, builtin, Sem.run_bind, Sem.run_pure, Result.andThen_ok, List.map_toArray, List.map_cons, List.map_nil, hs, hx, hrun]
    refine hK _ _ (h A c w (by simpa using hown) (RowKit.Below.refl _ _))
  · have hnews : ∀ (j : Nat) (u : Value), (ys.map (Value.int k))[j]? = some u → w.cell? (ad.add j) = some u := by
      rcases Nat.eq_zero_or_pos m with h0 | h0
      · obtain rfl : ys = [] := List.eq_nil_of_length_eq_zero (by omega)
        intro j u hu; simp at hu
      · obtain ⟨b, off, he, _⟩ := hr.at_ h0
        injection he with he
        subst he
        exact hr.src h0
    refine wpList_append_own_at w hgd s x t ho base e i (.int k 0) 1 bytes ht hi hz hsize hby rfl (by omega) _ n _ hs hown.own ad m c2 (ys.map (Value.int k)) hx (by simp [hl]) hnews (fun u hu => ?_) h63 hbytes hbase (fun v' w' h1 h2 _ _ => ?_)
    · obtain ⟨q, _, rfl⟩ := List.mem_map.1 hu
      rfl
    · rw [← List.map_append] at h1
      have hform : ∃ A' c', v' = .slice A' (n + m) c' := by
        rcases h1.2 with ⟨hv, h0⟩ | ⟨g, cap, cur, hv, _⟩
        · exact ⟨none, 0, by rw [hv, h0]⟩
        · exact ⟨_, _, hv⟩
      obtain ⟨A', c', rfl⟩ := hform
      exact h A' c' w' ⟨h1⟩ (hbel w' h2)

/-- A whole array out of a row, from an offset on. -/
theorem run_load_seg {P : Program} {w : World} {g off n : Nat} {t ty : TypeId} {k : IntKind} {xs ys : List Int} {d : TypeDesc} (h : Has w g t (vals k xs)) (hu : P.underlying ty = some d) (hd : (match d with | .struct _ | .array _ _ => true | _ => false) = true)
    (hi : (P.info? ty).map (·.size) = some n) (hy : ys = (xs.drop off).take n) (hoff : off + n ≤ xs.length) : (loadVar ty ⟨g, off, none⟩).run P w = .ok (.agg (vals k ys)) w := by
  have hyl : (ys.map (Value.int k)).length = n := by subst hy; simp; omega
  have hl : (loadCells ⟨g, off, none⟩ (ys.map (Value.int k)).length).run P w = .ok (ys.map (Value.int k)).toArray w := run_loadCells_list (P := P) w ⟨g, off, none⟩ (ys.map (Value.int k)) (h.src hy)
  have hagg : (isAgg ty).run P w = .ok true w := by
    unfold isAgg
    rw [Sem.run_bind, run_underlying hu w]
    cases d <;> simp_all
  cases hq : P.info? ty with
  | none => simp [hq] at hi
  | some i =>
    have hs : i.size = n := by simpa [hq] using hi
    rw [hyl] at hl
    simp [loadVar, Sem.run_bind, hagg, sizeOf, typeInfo, hq, hs, hl, vals]
theorem arrayAt_run {P : Program} {w : World} {arr e : TypeId} {n : Nat} (hu : P.underlying arr = some (.array n e)) {A : Option Addr} {l c : Nat} (h : n ≤ l) : (Instr.arrayAt arr (.slice A l c)).run P w = .ok (.pointer A) w := by
  simp [Instr.arrayAt, run_underlying hu, show ¬ l < n by omega]
theorem quiet_load_seg {P : Program} {o : Oper} {a : Act} {C : World → Prop} {K : Act → Prop} (ty : TypeId) (x : Operand) (ho : o.op = .load ty x) (g off n : Nat) (hx : a.eval x = .pointer (some ⟨g, off, none⟩)) (t : TypeId) (k : IntKind) (xs ys : List Int) (d : TypeDesc)
    (h : ∀ w, C w → Has w g t (vals k xs)) (hu : P.underlying ty = some d) (hd : (match d with | .struct _ | .array _ _ => true | _ => false) = true)
    (hi : (P.info? ty).map (·.size) = some n) (hy : ys = (xs.drop off).take n) (hoff : off + n ≤ xs.length) (hk : K (a.put o.dst (.agg (vals k ys)))) : o.quiet P a C K := by
  refine ⟨.agg (vals k ys), fun w hw => ?_, hk⟩
  unfold Oper.quietAt execOp
  simp only [ho, hx, Instr.loadAt, Instr.sureAddr, Sem.run_bind, Sem.run_pure, Result.andThen_ok, run_load_seg (h w hw) hu hd hi hy hoff]
  exact ⟨rfl, rfl⟩

/-! '==' on arrays of numbers. -/
theorem part_vals {P : Program} {w : World} {e : TypeId} {k k' : IntKind} (he : P.underlying e = some (.int k')) {xs : List Int} {j : Nat} (hj : j < xs.length) : (part e (vals k xs) j).run P w = .ok (.int k (nth xs j)) w := by
  have hg := vals_get (k := k) hj
  have hagg : (isAgg e).run P w = .ok false w := by
    unfold isAgg
    rw [Sem.run_bind, run_underlying he w]
    simp
  simp [part, hagg, hg]
theorem eqItems_vals {P : Program} {w : World} {d : Nat} {e : TypeId} {k k' : IntKind} (he : P.underlying e = some (.int k')) {xs ys : List Int} : ∀ (is : List Nat), (∀ j ∈ is, j < xs.length ∧ j < ys.length) →
    (Op.eqItems (d + 1) e 1 (vals k xs) (vals k ys) is).run P w = .ok (is.all fun j => nth xs j == nth ys j) w
  | [], _ => by simp [Op.eqItems]
  | j :: is, h => by
    have hj := h j (by simp)
    have ih := eqItems_vals (w := w) (d := d) (k := k) he (xs := xs) (ys := ys) is (fun q hq => h q (by simp [hq]))
    have h1 := part_vals (w := w) (k := k) he hj.1
    have h2 := part_vals (w := w) (k := k) he hj.2
    simp only [Op.eqItems, Nat.mul_one, Sem.run_bind, h1, h2, Result.andThen_ok, run_equalIn_int w d e k k' _ _ he]
    by_cases hq : nth xs j = nth ys j
    · simp [hq, ih]
    · simp [hq]
theorem equalIn_vals {P : Program} {w : World} {d n : Nat} {t e : TypeId} {k k' : IntKind} (hu : P.underlying t = some (.array n e)) (he : P.underlying e = some (.int k')) (hi : (P.info? e).isSome = true) (hc : P.cellsOf e = 1) {xs ys : List Int} (hx : xs.length = n) (hy : ys.length = n) :
    (Op.equalIn (d + 2) t (.agg (vals k xs)) (.agg (vals k ys))).run P w = .ok (decide (xs = ys)) w := by
  obtain ⟨i, hi'⟩ := Option.isSome_iff_exists.1 hi
  rw [run_equalIn_array w (d + 1) (vals k xs) (vals k ys) hu hi', hc, eqItems_vals he _ (fun j hj => by have := List.mem_range.1 hj; omega)]
  congr 1
  rw [Bool.eq_iff_iff]
  simp only [List.all_eq_true, List.mem_range, beq_iff_eq, decide_eq_true_eq]
  exact ⟨fun h => ext_nth (by omega) (fun i hi => h i (by omega)), fun h j _ => by rw [h]⟩
end Go.Proofs.Ythaoebamnlmfpaa.Reg
