/-
  Own text. A region that draws its order: its reads are taken first, in the order of the text; then what stores. Structures written out of parts of numbers.
-/
import Derived.Test.YtoogmgckbalboaaDoorMReg
namespace Go.Proofs.YtoogmgckbalboaaDoor.Reg
set_option linter.unusedVariables false
open Go
/-- Of what was there, nothing but one block has turned. -/
structure But (g : Nat) (w w' : World) : Prop where
  os : w'.os = w.os
  tape : w'.tape = w.tape
  output : w'.output = w.output
  size : w.heap.size ≤ w'.heap.size
  block : ∀ k, k < w.heap.size → k ≠ g → w'.heap[k]? = w.heap[k]?
section
variable {g B : Nat} {a w w' : World}
theorem But.of (h : RowKit.Below w.heap.size w w') (g : Nat) : But g w w' := ⟨h.os, h.tape, h.output, h.size, fun k hk _ => h.block k hk⟩
theorem But.then (h : But g a w) (k : RowKit.Below w.heap.size w w') : But g a w' :=
  ⟨k.os.trans h.os, k.tape.trans h.tape, k.output.trans h.output, Nat.le_trans h.size k.size, fun i hi hne => (k.block i (Nat.lt_of_lt_of_le hi h.size)).trans (h.block i hi hne)⟩
theorem But.has (h : But g w w') {g' : Nat} {t : TypeId} {cs : Array Value} (hh : Has w g' t cs) (hne : g' ≠ g) : Has w' g' t cs := ⟨(h.block g' hh.lt hne).trans hh.eq⟩
theorem But.below (h : But g w w') (hB : B ≤ g) (hB' : B ≤ w.heap.size) : RowKit.Below B w w' := ⟨h.os, h.tape, h.output, h.size, fun k hk => h.block k (by omega) (by omega)⟩
end
section
variable {P : Program} {ops : Array Oper} {md : Region.Mode} {Q : Exit → Act → World → Prop} {S : World → Prop}
/-- Operations that yield one value each, in the order of the text. -/
def wpTake (P : Program) (ops : Array Oper) (S : World → Prop) (K : Act → Prop) : List Oper → Act → Prop
  | [], a => K a
  | o :: rest, a => ∃ v, Steady P ops S o v a ∧ wpTake P ops S K rest (a.put o.dst v)
def readsB (md : Region.Mode) (ops : Array Oper) : Nat → Nat → Array Bool → Bool
  | 0, _, _ => true
  | n + 1, i, L => Region.free md ops L i && (Region.ready md ops L).contains i && readsB md ops n (i + 1) (L.setIfInBounds i true)
def firstN : Nat → Nat → Array Bool → Array Bool
  | 0, _, L => L
  | n + 1, i, L => firstN n (i + 1) (L.setIfInBounds i true)
theorem wpAnyU_reads (hS : ∀ w w', S w → RowKit.Below w.heap.size w w' → S w') (hs : Region.noSelect ops = true) (hQ : ∀ c a d v w, Q (.panic c) (Act.put a d v) w → Q (.panic c) a w) {f : Nat} {w : World} (hw : S w) :
    ∀ (n i : Nat) (L : Array Bool) (l : List Oper) (a : Act), l.length = n → (∀ j o, l[j]? = some o → ops[i + j]? = some o) → readsB md ops n i L = true →
      wpTake P ops S (fun a' => wpAnyU P md ops Q S f (firstN n i L) a' w) l a → wpAnyU P md ops Q S (n + f) L a w
  | 0, i, L, l, a, hl, _, _, h => by
    obtain rfl : l = [] := List.eq_nil_of_length_eq_zero hl
    rw [Nat.zero_add]
    exact h
  | n + 1, i, L, l, a, hl, ho, hB, h => by
    obtain ⟨o, rest, rfl⟩ : ∃ o rest, l = o :: rest := by
      cases l with
      | nil => cases hl
      | cons o rest => exact ⟨o, rest, rfl⟩
    obtain ⟨v, hv, hr⟩ := h
    simp only [readsB, Bool.and_eq_true] at hB
    rw [show n + 1 + f = (n + f) + 1 by omega]
    refine wpAnyU_take hS (i := i) (ho 0 o rfl) hs hB.1.1 hB.1.2 hQ hw hv ?_
    exact wpAnyU_reads hS hs hQ hw n (i + 1) (L.setIfInBounds i true) rest (a.put o.dst v) (by simpa using hl) (fun j o' hj => by
      have := ho (j + 1) o' (by simpa using hj)
      rwa [show i + (j + 1) = i + 1 + j by omega] at this) hB.2 hr
/-- A drawn region: n reads, then f operations more; one old block at most turns. -/
theorem wp_reads {id : Nat} {a : Act} {w : World} {l : List Oper} (n f g : Nat) (hm : P.follows .mixedOrders = true) (hs : Region.noSelect l.toArray = true) (hlen : n + f = l.toArray.size)
    (hB : readsB .any l.toArray n 0 (Array.replicate l.toArray.size false) = true) (hQ : ∀ c a d v w, Q (.panic c) (Act.put a d v) w → Q (.panic c) a w)
    (h : wpTake P l.toArray (But g w) (fun a' => wpAnyU P .any l.toArray Q (But g w) f (firstN n 0 (Array.replicate l.toArray.size false)) a' w.drew) (l.take n) a) : (Code.region id l.toArray true).wp P Q a w := by
  refine wp_regionU (S := But g w) hm ?_
  rw [← hlen]
  rw [hlen]
  have h0 : l.length = n + f := by have := hlen; simp at this; omega
  have := wpAnyU_reads (md := .any) (Q := Q) (S := But g w) (fun _ _ h hb => h.then hb) hs hQ (f := f) (w := w.drew) (But.of (w := w) (w' := w.drew) ⟨rfl, rfl, rfl, Nat.le_refl _, fun _ _ => rfl⟩ g) n 0 (Array.replicate l.toArray.size false) (l.take n) a
    (by rw [List.length_take]; omega) (fun j o hj => by
      rw [Nat.zero_add]
      rw [List.getElem?_take] at hj
      split at hj
      · simpa using hj
      · cases hj) hB h
  rwa [hlen] at this
theorem wpTake_nil {K : Act → Prop} {a : Act} (h : K a) : wpTake P ops S K [] a := h
theorem wpTake_cons {K : Act → Prop} {o : Oper} {rest : List Oper} {a : Act} {v : Value} (h1 : Steady P ops S o v a) (h2 : wpTake P ops S K rest (a.put o.dst v)) : wpTake P ops S K (o :: rest) a := ⟨v, h1, h2⟩
/-- The last operation stores a whole value into an old block. -/
theorem tail_store {i : Nat} {o : Oper} {L : Array Bool} {a : Act} {w : World} (hi : ops[i]? = some o) (hr : Region.ready md ops L = [i]) (he : Region.ready md ops (L.setIfInBounds i true) = []) (hgd : o.guard = none) (ty : TypeId) (x y : Operand) (ho : o.op = .store ty x y)
    (hd : o.dst = none) (g : Nat) (cells : Array Value) (hx : a.eval x = .pointer (some ⟨g, 0, none⟩)) (hy : a.eval y = .agg cells)
    (t : TypeId) (old : Array Value) (hg : Has w g t old) (hinf : (P.info? ty).map (·.size) = some cells.size) (hold : old.size = cells.size) (h1 : cells.all (·.oneCell') = true)
    (h : ∀ w', Has w' g t cells → But g w w' → Q .normal a w') : wpAnyU P md ops Q (But g w) 1 L a w.drew := by
  refine wpAnyU_run hi hr (fun w1 hq => ?_)
  have hg1 : Has w1 g t old := hg.drew.keep hq
  have hb1 : But g w w1 := (But.of (w := w) (w' := w.drew) ⟨rfl, rfl, rfl, Nat.le_refl _, fun _ _ => rfl⟩ g).then hq
  refine wpList_store_rowTo hgd ty x y ho hd g cells hx hy t old hg1.eq hinf hold h1 ?_
  have hb2 : But g w (w1.setRow g cells) := ⟨hb1.os, hb1.tape, hb1.output, by simpa using hb1.size, fun k hk hne => (setRow_other w1 g k cells hne).trans (hb1.block k hk hne)⟩
  refine ⟨hb2, he, fun w2 hq2 => ?_⟩
  exact h w2 ((hg1.row cells).keep hq2) (hb2.then hq2)
/-- A variable made, and a whole value stored into it. -/
theorem tail_new {i j : Nat} {o o' : Oper} {L : Array Bool} {a : Act} {w : World} (hi : ops[i]? = some o) (hj : ops[j]? = some o') (hr : Region.ready md ops L = [i]) (hr' : Region.ready md ops (L.setIfInBounds i true) = [j]) (he : Region.ready md ops ((L.setIfInBounds i true).setIfInBounds j true) = [])
    (hgd : o.guard = none) (ty : TypeId) (d : Tmp) (hal : o.op = .alloc ty) (hdst : o.dst = some d) (hgd' : o'.guard = none) (x y : Operand) (ho : o'.op = .store ty x y) (hd : o'.dst = none) (cells z : Array Value)
    (hx : ∀ g, (a.put (some d) (.pointer (some ⟨g, 0, none⟩))).eval x = .pointer (some ⟨g, 0, none⟩)) (hy : ∀ g, (a.put (some d) (.pointer (some ⟨g, 0, none⟩))).eval y = .agg cells)
    (hz : ∃ inf v, P.info? ty = some inf ∧ inf.zero = some v ∧ v.cells = z) (hinf : (P.info? ty).map (·.size) = some cells.size) (hold : z.size = cells.size) (h1 : cells.all (·.oneCell') = true)
    (h : ∀ w' g, w.heap.size ≤ g → Has w' g ty cells → RowKit.Below w.heap.size w w' → Q .normal (a.put (some d) (.pointer (some ⟨g, 0, none⟩))) w') : wpAnyU P md ops Q (But w.heap.size w) 2 L a w.drew := by
  obtain ⟨inf, v, hi1, hi2, hc⟩ := hz
  have hb0 : But w.heap.size w w.drew := But.of (w := w) (w' := w.drew) ⟨rfl, rfl, rfl, Nat.le_refl _, fun _ _ => rfl⟩ _
  refine wpAnyU_run hi hr (fun w1 hq => ?_)
  have hb1 := hb0.then hq
  unfold wpList
  rw [if_pos (by simp [Region.wanted, hgd])]
  refine .inl ?_
  unfold Oper.wp execOp
  have hrun : (Instr.alloc ty true (.tuple #[])).run P w1 = .ok (.pointer (some ⟨w1.heap.size, 0, none⟩)) (w1.alloc (.cells z ty)) := by
    subst hc
    simp [Instr.alloc, zeroValue, typeInfo, hi1, hi2, newVar, newRow]
  simp only [hal, Sem.run_bind, hrun, Result.andThen_ok, Sem.run_pure, Oper.upon]
  rw [hdst]
  have hbal : RowKit.Below w1.heap.size w1 (w1.alloc (.cells z ty)) := (RowKit.Below.refl _ _).alloc (Nat.le_refl _) _
  have hb2 := hb1.then hbal
  have hnew : Has (w1.alloc (.cells z ty)) w1.heap.size ty z := Has.new _ _ _
  refine ⟨hb2, ?_⟩
  refine wpAnyU_run hj hr' (fun w3 hq3 => ?_)
  have hg3 := hnew.keep hq3
  have hb3 := hb2.then hq3
  refine wpList_store_rowTo hgd' ty x y ho hd w1.heap.size cells (hx _) (hy _) ty z hg3.eq hinf hold h1 ?_
  have hge : w.heap.size ≤ w1.heap.size := hb1.size
  have hb4 : But w.heap.size w (w3.setRow w1.heap.size cells) := ⟨hb3.os, hb3.tape, hb3.output, by simpa using hb3.size, fun k hk hne => (setRow_other w3 w1.heap.size k cells (by omega)).trans (hb3.block k hk hne)⟩
  refine ⟨hb4, he, fun w5 hq5 => ?_⟩
  exact h w5 w1.heap.size hge ((hg3.row cells).keep hq5) ((hb4.then hq5).below (Nat.le_refl _) (Nat.le_refl _))
end

/-- A part of a list. -/
def seg (off n : Nat) (l : List Int) : List Int := (l.drop off).take n
theorem seg_len {off n m : Nat} {l : List Int} (hl : l.length = m) (h : off + n ≤ m) : (seg off n l).length = n := by rw [seg, List.length_take, List.length_drop]; omega
theorem take_load {P : Program} {ops : Array Oper} {S : World → Prop} {K : Act → Prop} {o : Oper} {rest : List Oper} {a : Act} (hgd : Region.wanted o (yielded ops a.tmps) = true) (ty : TypeId) {x : Operand} (ho : o.op = .load ty x) {g off n : Nat} (hx : a.eval x = .pointer (some ⟨g, off, none⟩)) {t : TypeId} {xs : List Int} {d : TypeDesc}
    (h : ∀ w, S w → Has w g t (vals .u64 xs)) (hu : P.underlying ty = some d) (hd : (match d with | .struct _ | .array _ _ => true | _ => false) = true) (hi : (P.info? ty).map (·.size) = some n) (hoff : off + n ≤ xs.length)
    (h2 : wpTake P ops S K rest (a.put o.dst (.agg (vals .u64 (seg off n xs))))) : wpTake P ops S K (o :: rest) a := wpTake_cons (Steady.load_seg hgd ty x ho g off n hx t .u64 xs (seg off n xs) d h hu hd hi rfl hoff) h2
theorem take_loadw {P : Program} {ops : Array Oper} {S : World → Prop} {K : Act → Prop} {o : Oper} {rest : List Oper} {a : Act} (hgd : Region.wanted o (yielded ops a.tmps) = true) (ty : TypeId) {x : Operand} (ho : o.op = .load ty x) {g n : Nat} (hx : a.eval x = .pointer (some ⟨g, 0, none⟩)) {t : TypeId} {xs : List Int} {d : TypeDesc}
    (h : ∀ w, S w → Has w g t (vals .u64 xs)) (hu : P.underlying ty = some d) (hd : (match d with | .struct _ | .array _ _ => true | _ => false) = true) (hi : (P.info? ty).map (·.size) = some n) (hn : xs.length = n)
    (h2 : wpTake P ops S K rest (a.put o.dst (.agg (vals .u64 xs)))) : wpTake P ops S K (o :: rest) a := wpTake_cons (Steady.load_seg hgd ty x ho g 0 n hx t .u64 xs xs d h hu hd hi (by rw [List.drop_zero, List.take_of_length_le (by omega)]) (by omega)) h2
theorem take_build {P : Program} {ops : Array Oper} {S : World → Prop} {K : Act → Prop} {o : Oper} {rest : List Oper} {a : Act} (hgd : Region.wanted o (yielded ops a.tmps) = true) {t : TypeId} {parts : Array (Nat × Operand)} (ho : o.op = .build t parts) {cells : Array Value}
    (hf : P.built t (parts.toList.map fun p => (p.1, a.eval p.2)) = some cells) (h2 : wpTake P ops S K rest (a.put o.dst (.agg cells))) : wpTake P ops S K (o :: rest) a := wpTake_cons (Steady.build hgd t parts ho cells (by rw [← hf, Array.toList_map])) h2
/-- How a structure is written out of its parts. -/
def Built (P : Program) (t : TypeId) (pl : List (Nat × Nat)) (z : List Int) : Prop := ∀ parts, P.built t parts = Instr.fill (pl.toArray[·]?) (vals .u64 z) parts
theorem fold_part : ∀ (xs : List Int) (off j : Nat) (cs : List Int), off + j + xs.length ≤ cs.length →
    ((xs.map (Value.int .u64)).zipIdx j).foldl (fun (a : Array Value) (x : Value × Nat) => a.setIfInBounds (off + x.2) x.1) (vals .u64 cs) = vals .u64 (cs.take (off + j) ++ xs ++ cs.drop (off + j + xs.length))
  | [], off, j, cs, _ => by simp
  | x :: xs, off, j, cs, h => by
    simp only [List.length_cons] at h
    simp only [List.map_cons, List.zipIdx_cons, List.foldl_cons]
    rw [vals_set, fold_part xs off (j + 1) (cs.set (off + j) x) (by rw [List.length_set]; omega)]
    congr 1
    rw [show off + (j + 1) = off + j + 1 by omega, List.take_set, List.drop_set, if_pos (by omega)]
    rw [List.set_eq_take_append_cons_drop]
    have hl : (cs.take (off + j + 1)).length = off + j + 1 := by rw [List.length_take]; omega
    rw [if_pos (by omega), List.take_take, Nat.min_eq_left (by omega), List.drop_eq_nil_of_le (by omega)]
    simp only [List.length_cons, List.append_assoc, List.cons_append, List.nil_append]
    rw [show off + j + 1 + xs.length = off + j + (xs.length + 1) by omega]
theorem fill_part {pl : Nat → Option (Nat × Nat)} {i off n : Nat} {xs cs : List Int} {rest : List (Nat × Value)} (hp : pl i = some (off, n)) (hx : xs.length = n) (h : off + n ≤ cs.length) :
    Instr.fill pl (vals .u64 cs) ((i, .agg (vals .u64 xs)) :: rest) = Instr.fill pl (vals .u64 (cs.take off ++ xs ++ cs.drop (off + n))) rest := by
  subst hx
  have hc : (Value.agg (vals .u64 xs)).cells = vals .u64 xs := rfl
  have hs : (vals .u64 xs).size = xs.length := vals_size
  rw [Instr.fill, hp]
  simp only [hc, hs]
  rw [if_neg (by rw [vals_size]; simp; omega)]
  congr 1
  have hf := fold_part xs off 0 cs (by omega)
  rw [Nat.add_zero] at hf
  rw [← hf]
  rw [← Array.foldl_toList, Array.toList_zipIdx]
  rfl
theorem built_two {P : Program} {t : TypeId} {n : Nat} {xs ys : List Int} (hB : Built P t [(0, n), (n, n)] (List.replicate (n + n) 0)) (hx : xs.length = n) (hy : ys.length = n) : P.built t [(0, .agg (vals .u64 xs)), (1, .agg (vals .u64 ys))] = some (vals .u64 (xs ++ ys)) := by
  rw [hB, fill_part (off := 0) (n := n) rfl hx (by simp), fill_part (off := n) (n := n) rfl hy (by simp [hx])]
  simp only [Instr.fill, List.take_zero, List.nil_append, Nat.zero_add]
  rw [List.take_left' hx, List.drop_eq_nil_of_le (by simp [hx]), List.append_nil]
theorem built_three {P : Program} {t : TypeId} {n : Nat} {xs ys zs : List Int} (hB : Built P t [(0, n), (n, n), (n + n, n)] (List.replicate (n + n + n) 0)) (hx : xs.length = n) (hy : ys.length = n) (hz : zs.length = n) : P.built t [(0, .agg (vals .u64 xs)), (1, .agg (vals .u64 ys)), (2, .agg (vals .u64 zs))] = some (vals .u64 (xs ++ ys ++ zs)) := by
  rw [hB, fill_part (off := 0) (n := n) rfl hx (by simp <;> omega), fill_part (off := n) (n := n) rfl hy (by simp [hx]), fill_part (off := n + n) (n := n) rfl hz (by simp [hx, hy] <;> omega)]
  simp only [Instr.fill, List.take_zero, List.nil_append, Nat.zero_add]
  rw [List.take_left' hx, List.take_left' (l₁ := xs ++ ys) (by simp [hx, hy]), List.drop_eq_nil_of_le (by simp [hx, hy]; omega), List.append_nil]
end Go.Proofs.YtoogmgckbalboaaDoor.Reg
