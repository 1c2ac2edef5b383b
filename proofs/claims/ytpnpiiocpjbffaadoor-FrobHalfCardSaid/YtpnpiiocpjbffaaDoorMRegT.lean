/-
  Own text. A region that draws its order: its reads are taken first, in the order of the text; then what stores. Structures written out of parts of numbers.
-/
import Derived.Test.YtpnpiiocpjbffaaDoorMReg
import Derived.Laws.StructEq
import Derived.Deep.MidRow
namespace Go.Proofs.YtpnpiiocpjbffaaDoor.Reg
set_option linter.unusedVariables false
open Go
/-- Of what was there, nothing but one block has turned. -/
structure But (g : Nat) (w w' : World) : Prop where
  os : w'.os = w.os
  tape : w'.tape = w.tape
  output : w'.output = w.output
  size : w.heap.size ≤ w'.heap.size
  block : ∀ k, k < w.heap.size → k ≠ g → w'.heap[k]? = w.heap[k]?
section
variable {g B : Nat} {a w w' : World}
theorem But.of (h : RowKit.Below w.heap.size w w') (g : Nat) : But g w w' := ⟨h.os, h.tape, h.output, h.size, fun k hk _ => h.block k hk⟩
theorem But.then (h : But g a w) (k : RowKit.Below w.heap.size w w') : But g a w' :=
  ⟨k.os.trans h.os, k.tape.trans h.tape, k.output.trans h.output, Nat.le_trans h.size k.size, fun i hi hne => (k.block i (Nat.lt_of_lt_of_le hi h.size)).trans (h.block i hi hne)⟩
theorem But.has (h : But g w w') {g' : Nat} {t : TypeId} {cs : Array Value} (hh : Has w g' t cs) (hne : g' ≠ g) : Has w' g' t cs := ⟨(h.block g' hh.lt hne).trans hh.eq⟩
theorem But.below (h : But g w w') (hB : B ≤ g) (hB' : B ≤ w.heap.size) : RowKit.Below B w w' := ⟨h.os, h.tape, h.output, h.size, fun k hk => h.block k (by omega) (by omega)⟩
end
section
variable {P : Program} {ops : Array Oper} {md : Region.Mode} {Q : Exit → Act → World → Prop} {S : World → Prop}
/-- Operations that yield one value each, in the order of the text. -/
def wpTake (P : Program) (ops : Array Oper) (S : World → Prop) (K : Act → Prop) : List Oper → Act → Prop
  | [], a => K a
  | o :: rest, a => ∃ v, Steady P ops S o v a ∧ wpTake P ops S K rest (a.put o.dst v)
def readsB (md : Region.Mode) (ops : Array Oper) : Nat → Nat → Array Bool → Bool
  | 0, _, _ => true
  | n + 1, i, L => Region.free md ops L i && (Region.ready md ops L).contains i && readsB md ops n (i + 1) (L.setIfInBounds i true)
def firstN : Nat → Nat → Array Bool → Array Bool
  | 0, _, L => L
  | n + 1, i, L => firstN n (i + 1) (L.setIfInBounds i true)
theorem wpAnyU_reads (hS : ∀ w w', S w → RowKit.Below w.heap.size w w' → S w') (hs : Region.noSelect ops = true) (hQ : ∀ c a d v w, Q (.panic c) (Act.put a d v) w → Q (.panic c) a w) {f : Nat} {w : World} (hw : S w) :
    ∀ (n i : Nat) (L : Array Bool) (l : List Oper) (a : Act), l.length = n → (∀ j o, l[j]? = some o → ops[i + j]? = some o) → readsB md ops n i L = true →
      wpTake P ops S (fun a' => wpAnyU P md ops Q S f (firstN n i L) a' w) l a → wpAnyU P md ops Q S (n + f) L a w
  | 0, i, L, l, a, hl, _, _, h => by
    obtain rfl : l = [] := List.eq_nil_of_length_eq_zero hl
    rw [Nat.zero_add]
    exact h
  | n + 1, i, L, l, a, hl, ho, hB, h => by
    obtain ⟨o, rest, rfl⟩ : ∃ o rest, l = o :: rest := by
      cases l with
      | nil => cases hl
      | cons o rest => exact ⟨o, rest, rfl⟩
    obtain ⟨v, hv, hr⟩ := h
    simp only [readsB, Bool.and_eq_true] at hB
    rw [show n + 1 + f = (n + f) + 1 by omega]
    refine wpAnyU_take hS (i := i) (ho 0 o rfl) hs hB.1.1 hB.1.2 hQ hw hv ?_
    exact wpAnyU_reads hS hs hQ hw n (i + 1) (L.setIfInBounds i true) rest (a.put o.dst v) (by simpa using hl) (fun j o' hj => by
      have := ho (j + 1) o' (by simpa using hj)
      rwa [show i + (j + 1) = i + 1 + j by omega] at this) hB.2 hr
/-- A drawn region: n reads, then f operations more; one old block at most turns. -/
theorem wp_reads {id : Nat} {a : Act} {w : World} {l : List Oper} (n f g : Nat) (hm : P.follows .mixedOrders = true) (hs : Region.noSelect l.toArray = true) (hlen : n + f = l.toArray.size)
    (hB : readsB .any l.toArray n 0 (Array.replicate l.toArray.size false) = true) (hQ : ∀ c a d v w, Q (.panic c) (Act.put a d v) w → Q (.panic c) a w)
    (h : wpTake P l.toArray (But g w) (fun a' => wpAnyU P .any l.toArray Q (But g w) f (firstN n 0 (Array.replicate l.toArray.size false)) a' w.drew) (l.take n) a) : (Code.region id l.toArray true).wp P Q a w := by
  refine wp_regionU (S := But g w) hm ?_
  rw [← hlen]
  rw [hlen]
  have h0 : l.length = n + f := by have := hlen; simp at this; omega
  have := wpAnyU_reads (md := .any) (Q := Q) (S := But g w) (fun _ _ h hb => h.then hb) hs hQ (f := f) (w := w.drew) (But.of (w := w) (w' := w.drew) ⟨rfl, rfl, rfl, Nat.le_refl _, fun _ _ => rfl⟩ g) n 0 (Array.replicate l.toArray.size false) (l.take n) a
    (by rw [List.length_take]; omega) (fun j o hj => by
      rw [Nat.zero_add]
      rw [List.getElem?_take] at hj
      split at hj
      · simpa using hj
      · cases hj) hB h
  rwa [hlen] at this
theorem wpTake_nil {K : Act → Prop} {a : Act} (h : K a) : wpTake P ops S K [] a := h
theorem wpTake_cons {K : Act → Prop} {o : Oper} {rest : List Oper} {a : Act} {v : Value} (h1 : Steady P ops S o v a) (h2 : wpTake P ops S K rest (a.put o.dst v)) : wpTake P ops S K (o :: rest) a := ⟨v, h1, h2⟩
/-- The last operation stores a whole value into an old block. -/
theorem tail_store {i : Nat} {o : Oper} {L : Array Bool} {a : Act} {w : World} (hi : ops[i]? = some o) (hr : Region.ready md ops L = [i]) (he : Region.ready md ops (L.setIfInBounds i true) = []) (hgd : o.guard = none) (ty : TypeId) (x y : Operand) (ho : o.op = .store ty x y)
    (hd : o.dst = none) (g : Nat) (cells : Array Value) (hx : a.eval x = .pointer (some ⟨g, 0, none⟩)) (hy : a.eval y = .agg cells)
    (t : TypeId) (old : Array Value) (hg : Has w g t old) (hinf : (P.info? ty).map (·.size) = some cells.size) (hold : old.size = cells.size) (h1 : cells.all (·.oneCell') = true)
    (h : ∀ w', Has w' g t cells → But g w w' → Q .normal a w') : wpAnyU P md ops Q (But g w) 1 L a w.drew := by
  refine wpAnyU_run hi hr (fun w1 hq => ?_)
  have hg1 : Has w1 g t old := hg.drew.keep hq
  have hb1 : But g w w1 := (But.of (w := w) (w' := w.drew) ⟨rfl, rfl, rfl, Nat.le_refl _, fun _ _ => rfl⟩ g).then hq
  refine wpList_store_rowTo hgd ty x y ho hd g cells hx hy t old hg1.eq hinf hold h1 ?_
  have hb2 : But g w (w1.setRow g cells) := ⟨hb1.os, hb1.tape, hb1.output, by simpa using hb1.size, fun k hk hne => (setRow_other w1 g k cells hne).trans (hb1.block k hk hne)⟩
  refine ⟨hb2, he, fun w2 hq2 => ?_⟩
  exact h w2 ((hg1.row cells).keep hq2) (hb2.then hq2)
/-- A variable made, and a whole value stored into it. -/
theorem tail_new {i j : Nat} {o o' : Oper} {L : Array Bool} {a : Act} {w : World} (hi : ops[i]? = some o) (hj : ops[j]? = some o') (hr : Region.ready md ops L = [i]) (hr' : Region.ready md ops (L.setIfInBounds i true) = [j]) (he : Region.ready md ops ((L.setIfInBounds i true).setIfInBounds j true) = [])
    (hgd : o.guard = none) (ty : TypeId) (d : Tmp) (hal : o.op = .alloc ty) (hdst : o.dst = some d) (hgd' : o'.guard = none) (x y : Operand) (ho : o'.op = .store ty x y) (hd : o'.dst = none) (cells z : Array Value)
    (hx : ∀ g, (a.put (some d) (.pointer (some ⟨g, 0, none⟩))).eval x = .pointer (some ⟨g, 0, none⟩)) (hy : ∀ g, (a.put (some d) (.pointer (some ⟨g, 0, none⟩))).eval y = .agg cells)
    (hz : ∃ inf v, P.info? ty = some inf ∧ inf.zero = some v ∧ v.cells = z) (hinf : (P.info? ty).map (·.size) = some cells.size) (hold : z.size = cells.size) (h1 : cells.all (·.oneCell') = true)
    (h : ∀ w' g, w.heap.size ≤ g → Has w' g ty cells → RowKit.Below w.heap.size w w' → Q .normal (a.put (some d) (.pointer (some ⟨g, 0, none⟩))) w') : wpAnyU P md ops Q (But w.heap.size w) 2 L a w.drew := by
  obtain ⟨inf, v, hi1, hi2, hc⟩ := hz
  have hb0 : But w.heap.size w w.drew := But.of (w := w) (w' := w.drew) ⟨rfl, rfl, rfl, Nat.le_refl _, fun _ _ => rfl⟩ _
  refine wpAnyU_run hi hr (fun w1 hq => ?_)
  have hb1 := hb0.then hq
  unfold wpList
  rw [if_pos (by simp [Region.wanted, hgd])]
  refine .inl ?_
  unfold Oper.wp execOp
  have hrun : (Instr.alloc ty true (.tuple #[])).run P w1 = .ok (.pointer (some ⟨w1.heap.size, 0, none⟩)) (w1.alloc (.cells z ty)) := by
    subst hc
    simp [Instr.alloc, zeroValue, typeInfo, hi1, hi2, newVar, newRow]
  simp only [hal, Sem.run_bind, hrun, Result.andThen_ok, Sem.run_pure, Oper.upon]
  rw [hdst]
  have hbal : RowKit.Below w1.heap.size w1 (w1.alloc (.cells z ty)) := (RowKit.Below.refl _ _).alloc (Nat.le_refl _) _
  have hb2 := hb1.then hbal
  have hnew : Has (w1.alloc (.cells z ty)) w1.heap.size ty z := Has.new _ _ _
  refine ⟨hb2, ?_⟩
  refine wpAnyU_run hj hr' (fun w3 hq3 => ?_)
  have hg3 := hnew.keep hq3
  have hb3 := hb2.then hq3
  refine wpList_store_rowTo hgd' ty x y ho hd w1.heap.size cells (hx _) (hy _) ty z hg3.eq hinf hold h1 ?_
  have hge : w.heap.size ≤ w1.heap.size := hb1.size
  have hb4 : But w.heap.size w (w3.setRow w1.heap.size cells) := ⟨hb3.os, hb3.tape, hb3.output, by simpa using hb3.size, fun k hk hne => (setRow_other w3 w1.heap.size k cells (by omega)).trans (hb3.block k hk hne)⟩
  refine ⟨hb4, he, fun w5 hq5 => ?_⟩
  exact h w5 w1.heap.size hge ((hg3.row cells).keep hq5) ((hb4.then hq5).below (Nat.le_refl _) (Nat.le_refl _))
end

/-- A part of a list. -/
def seg (off n : Nat) (l : List Int) : List Int := (l.drop off).take n
theorem seg_len {off n m : Nat} {l : List Int} (hl : l.length = m) (h : off + n ≤ m) : (seg off n l).length = n := by rw [seg, List.length_take, List.length_drop]; omega
theorem take_load {P : Program} {ops : Array Oper} {S : World → Prop} {K : Act → Prop} {o : Oper} {rest : List Oper} {a : Act} (hgd : Region.wanted o (yielded ops a.tmps) = true) (ty : TypeId) {x : Operand} (ho : o.op = .load ty x) {g off n : Nat} (hx : a.eval x = .pointer (some ⟨g, off, none⟩)) {t : TypeId} {xs : List Int} {d : TypeDesc}
    (h : ∀ w, S w → Has w g t (vals .u64 xs)) (hu : P.underlying ty = some d) (hd : (match d with | .struct _ | .array _ _ => true | _ => false) = true) (hi : (P.info? ty).map (·.size) = some n) (hoff : off + n ≤ xs.length)
    (h2 : wpTake P ops S K rest (a.put o.dst (.agg (vals .u64 (seg off n xs))))) : wpTake P ops S K (o :: rest) a := wpTake_cons (Steady.load_seg hgd ty x ho g off n hx t .u64 xs (seg off n xs) d h hu hd hi rfl hoff) h2
theorem take_loadw {P : Program} {ops : Array Oper} {S : World → Prop} {K : Act → Prop} {o : Oper} {rest : List Oper} {a : Act} (hgd : Region.wanted o (yielded ops a.tmps) = true) (ty : TypeId) {x : Operand} (ho : o.op = .load ty x) {g n : Nat} (hx : a.eval x = .pointer (some ⟨g, 0, none⟩)) {t : TypeId} {xs : List Int} {d : TypeDesc}
    (h : ∀ w, S w → Has w g t (vals .u64 xs)) (hu : P.underlying ty = some d) (hd : (match d with | .struct _ | .array _ _ => true | _ => false) = true) (hi : (P.info? ty).map (·.size) = some n) (hn : xs.length = n)
    (h2 : wpTake P ops S K rest (a.put o.dst (.agg (vals .u64 xs)))) : wpTake P ops S K (o :: rest) a := wpTake_cons (Steady.load_seg hgd ty x ho g 0 n hx t .u64 xs xs d h hu hd hi (by rw [List.drop_zero, List.take_of_length_le (by omega)]) (by omega)) h2
theorem take_build {P : Program} {ops : Array Oper} {S : World → Prop} {K : Act → Prop} {o : Oper} {rest : List Oper} {a : Act} (hgd : Region.wanted o (yielded ops a.tmps) = true) {t : TypeId} {parts : Array (Nat × Operand)} (ho : o.op = .build t parts) {cells : Array Value}
    (hf : P.built t (parts.toList.map fun p => (p.1, a.eval p.2)) = some cells) (h2 : wpTake P ops S K rest (a.put o.dst (.agg cells))) : wpTake P ops S K (o :: rest) a := wpTake_cons (Steady.build hgd t parts ho cells (by rw [← hf, Array.toList_map])) h2
/-- How a structure is written out of its parts. -/
def Built (P : Program) (t : TypeId) (pl : List (Nat × Nat)) (z : List Int) : Prop := ∀ parts, P.built t parts = Instr.fill (pl.toArray[·]?) (vals .u64 z) parts
theorem fold_part : ∀ (xs : List Int) (off j : Nat) (cs : List Int), off + j + xs.length ≤ cs.length →
    ((xs.map (Value.int .u64)).zipIdx j).foldl (fun (a : Array Value) (x : Value × Nat) => a.setIfInBounds (off + x.2) x.1) (vals .u64 cs) = vals .u64 (cs.take (off + j) ++ xs ++ cs.drop (off + j + xs.length))
  | [], off, j, cs, _ => by simp
  | x :: xs, off, j, cs, h => by
    simp only [List.length_cons] at h
    simp only [List.map_cons, List.zipIdx_cons, List.foldl_cons]
    rw [vals_set, fold_part xs off (j + 1) (cs.set (off + j) x) (by rw [List.length_set]; omega)]
    congr 1
    rw [show off + (j + 1) = off + j + 1 by omega, List.take_set, List.drop_set, if_pos (by omega)]
    rw [List.set_eq_take_append_cons_drop]
    have hl : (cs.take (off + j + 1)).length = off + j + 1 := by rw [List.length_take]; omega
    rw [if_pos (by omega), List.take_take, Nat.min_eq_left (by omega), List.drop_eq_nil_of_le (by omega)]
    simp only [List.length_cons, List.append_assoc, List.cons_append, List.nil_append]
    rw [show off + j + 1 + xs.length = off + j + (xs.length + 1) by omega]
theorem fill_part {pl : Nat → Option (Nat × Nat)} {i off n : Nat} {xs cs : List Int} {rest : List (Nat × Value)} (hp : pl i = some (off, n)) (hx : xs.length = n) (h : off + n ≤ cs.length) :
    Instr.fill pl (vals .u64 cs) ((i, .agg (vals .u64 xs)) :: rest) = Instr.fill pl (vals .u64 (cs.take off ++ xs ++ cs.drop (off + n))) rest := by
  subst hx
  have hc : (Value.agg (vals .u64 xs)).cells = vals .u64 xs := rfl
  have hs : (vals .u64 xs).size = xs.length := vals_size
  rw [Instr.fill, hp]
  simp only [hc, hs]
  rw [if_neg (by rw [vals_size]; simp; omega)]
  congr 1
  have hf := fold_part xs off 0 cs (by omega)
  rw [Nat.add_zero] at hf
  rw [← hf]
  rw [← Array.foldl_toList, Array.toList_zipIdx]
  rfl
theorem built_two {P : Program} {t : TypeId} {n : Nat} {xs ys : List Int} (hB : Built P t [(0, n), (n, n)] (List.replicate (n + n) 0)) (hx : xs.length = n) (hy : ys.length = n) : P.built t [(0, .agg (vals .u64 xs)), (1, .agg (vals .u64 ys))] = some (vals .u64 (xs ++ ys)) := by
  rw [hB, fill_part (off := 0) (n := n) rfl hx (by simp), fill_part (off := n) (n := n) rfl hy (by simp [hx])]
  simp only [Instr.fill, List.take_zero, List.nil_append, Nat.zero_add]
  rw [List.take_left' hx, List.drop_eq_nil_of_le (by simp [hx]), List.append_nil]
theorem built_three {P : Program} {t : TypeId} {n : Nat} {xs ys zs : List Int} (hB : Built P t [(0, n), (n, n), (n + n, n)] (List.replicate (n + n + n) 0)) (hx : xs.length = n) (hy : ys.length = n) (hz : zs.length = n) : P.built t [(0, .agg (vals .u64 xs)), (1, .agg (vals .u64 ys)), (2, .agg (vals .u64 zs))] = some (vals .u64 (xs ++ ys ++ zs)) := by
  rw [hB, fill_part (off := 0) (n := n) rfl hx (by simp <;> omega), fill_part (off := n) (n := n) rfl hy (by simp [hx]), fill_part (off := n + n) (n := n) rfl hz (by simp [hx, hy] <;> omega)]
  simp only [Instr.fill, List.take_zero, List.nil_append, Nat.zero_add]
  rw [List.take_left' hx, List.take_left' (l₁ := xs ++ ys) (by simp [hx, hy]), List.drop_eq_nil_of_le (by simp [hx, hy]; omega), List.append_nil]
end Go.Proofs.YtpnpiiocpjbffaaDoor.Reg

/-
  Own text. '==' on structures whose parts are numbers of one size.
-/
namespace Go.Proofs.YtpnpiiocpjbffaaDoor.Reg
set_option linter.unusedVariables false
open Go
/-- '==' tells two numbers of n words of this type. -/
def EqOK (P : Program) (d : Nat) (t : TypeId) (n : Nat) : Prop := ∀ (w : World) (xs ys : List Int), xs.length = n → ys.length = n → (Op.equalIn d t (.agg (vals .u64 xs)) (.agg (vals .u64 ys))).run P w = .ok (decide (xs = ys)) w
theorem eqok_arr {P : Program} {d n : Nat} {t e : TypeId} {k' : IntKind} (hu : P.underlying t = some (.array n e)) (he : P.underlying e = some (.int k')) (hi : (P.info? e).isSome = true) (hc : P.cellsOf e = 1) : EqOK P (d + 2) t n :=
  fun w xs ys hx hy => equalIn_vals (d := d) hu he hi hc hx hy
theorem part_seg {P : Program} {w : World} {e : TypeId} {n off : Nat} {d : TypeDesc} {xs : List Int} (hu : P.underlying e = some d) (hd : (match d with | .struct _ | .array _ _ => true | _ => false) = true) (hi : (P.info? e).map (·.size) = some n) :
    (part e (vals .u64 xs) off).run P w = .ok (.agg (vals .u64 (seg off n xs))) w := by
  have hagg : (isAgg e).run P w = .ok true w := by
    unfold isAgg
    rw [Sem.run_bind, run_underlying hu w]
    cases d <;> simp_all
  cases hq : P.info? e with
  | none => simp [hq] at hi
  | some i =>
    have hs : i.size = n := by simpa [hq] using hi
    have he : (vals .u64 xs).extract off (off + n) = vals .u64 (seg off n xs) := by
      simp [vals, seg, List.extract_toArray, List.extract_eq_take_drop, List.map_take, List.map_drop]
    simp [part, Sem.run_bind, hagg, sizeOf, typeInfo, hq, hs, he]
theorem eqFields_segs {P : Program} {w : World} {d n : Nat} {e : TypeId} {de : TypeDesc} {xs ys : List Int} (h : EqOK P d e n) (hu : P.underlying e = some de) (hd : (match de with | .struct _ | .array _ _ => true | _ => false) = true) (hi : (P.info? e).map (·.size) = some n) : ∀ fs : List Field,
    (∀ f ∈ fs, f.name ≠ "_" ∧ f.type = e ∧ f.offset + n ≤ xs.length ∧ f.offset + n ≤ ys.length) → (Op.eqFields d (vals .u64 xs) (vals .u64 ys) fs).run P w = .ok (fs.all fun f => decide (seg f.offset n xs = seg f.offset n ys)) w
  | [], _ => by simp [Op.eqFields]
  | f :: fs, hf => by
    obtain ⟨h1, h2, h3, h4⟩ := hf f (by simp)
    have ih := eqFields_segs (w := w) (xs := xs) (ys := ys) h hu hd hi fs (fun g hg => hf g (by simp [hg]))
    have hx := part_seg (w := w) (off := f.offset) (xs := xs) hu hd hi
    have hy := part_seg (w := w) (off := f.offset) (xs := ys) hu hd hi
    have he := h w (seg f.offset n xs) (seg f.offset n ys) (seg_len rfl h3) (seg_len rfl h4)
    subst h2
    simp only [Op.eqFields, if_pos h1, Sem.run_bind, hx, hy, Result.andThen_ok, he]
    by_cases hq : seg f.offset n xs = seg f.offset n ys
    · simp [hq, ih]
    · simp [hq]
theorem seg_all {n m : Nat} {l : List Int} (hl : l.length = n + m) : l = seg 0 n l ++ seg n m l := by
  have e : seg n m l = l.drop n := List.take_of_length_le (by rw [List.length_drop, hl]; omega)
  rw [e, show seg 0 n l = l.take n from rfl, List.take_append_drop]
theorem eqok_two {P : Program} {d n : Nat} {t e : TypeId} {de : TypeDesc} (h : EqOK P d e n) (hu : P.underlying e = some de) (hd : (match de with | .struct _ | .array _ _ => true | _ => false) = true) (hi : (P.info? e).map (·.size) = some n) (ht : P.underlying t = some (.struct (P.fieldsOf t))) (hp : P.stoodInHeld t = false)
    (hf : (P.fieldsOf t).toList.map (fun f => (decide (f.name = "_"), f.type, f.offset)) = [(false, e, 0), (false, e, n)]) : EqOK P (d + 1) t (n + n) := fun w xs ys hx hy => by
  rw [run_equalIn_struct w d t _ _ ht hp]
  generalize (P.fieldsOf t).toList = fs at hf
  rcases fs with _ | ⟨f, _ | ⟨g, _ | ⟨k, r⟩⟩⟩
  · simp at hf
  · simp at hf
  · simp only [List.map_cons, List.map_nil, List.cons.injEq, Prod.mk.injEq, decide_eq_false_iff_not, and_true] at hf
    obtain ⟨⟨f1, f2, f3⟩, g1, g2, g3⟩ := hf
    rw [eqFields_segs h hu hd hi [f, g] (fun k hk => by
      rcases List.mem_cons.1 hk with rfl | hk
      · exact ⟨f1, f2, by omega, by omega⟩
      · obtain rfl : k = g := by simpa using hk
        exact ⟨g1, g2, by omega, by omega⟩)]
    congr 1
    rw [Bool.eq_iff_iff]
    simp only [List.all_cons, List.all_nil, Bool.and_true, Bool.and_eq_true, decide_eq_true_eq, f3, g3]
    exact ⟨fun hh => by rw [seg_all hx, seg_all hy, hh.1, hh.2], fun hh => by rw [hh]; exact ⟨rfl, rfl⟩⟩
  · simp at hf
section
variable {P : Program} {ops : Array Oper} {S : World → Prop} {K : Act → Prop} {o : Oper} {rest : List Oper} {a : Act}
theorem take_skip (h : Region.wanted o (yielded ops a.tmps) = false) (h2 : wpTake P ops S K rest (a.put o.dst undef)) : wpTake P ops S K (o :: rest) a := wpTake_cons (.inr ⟨h, rfl⟩) h2
theorem take_eql (hgd : Region.wanted o (yielded ops a.tmps) = true) {t r : TypeId} {x y : Operand} (ho : o.op = .binOp .eql t x y r) {xs ys : List Int} {n : Nat} (hx : a.eval x = .agg (vals .u64 xs)) (hy : a.eval y = .agg (vals .u64 ys)) (hE : EqOK P 10000 t n) (hg : P.eqGuardType P.depth t = false)
    (hl : xs.length = n) (hl' : ys.length = n) {b : Bool} (hb : decide (xs = ys) = b) (h2 : wpTake P ops S K rest (a.put o.dst (.bool b))) : wpTake P ops S K (o :: rest) a := by
  refine wpTake_cons (v := .bool b) (.inl ⟨hgd, fun w _ => ?_⟩) h2
  have h := hE w xs ys hl hl'
  rw [hb] at h
  unfold Oper.quietAt
  simp only [execOp, ho, hx, hy]
  go_simp <;> exact ⟨rfl, rfl⟩
theorem take_neq (hgd : Region.wanted o (yielded ops a.tmps) = true) {t r : TypeId} {x y : Operand} (ho : o.op = .binOp .neq t x y r) {xs ys : List Int} {n : Nat} (hx : a.eval x = .agg (vals .u64 xs)) (hy : a.eval y = .agg (vals .u64 ys)) (hE : EqOK P 10000 t n) (hg : P.eqGuardType P.depth t = false)
    (hl : xs.length = n) (hl' : ys.length = n) {b : Bool} (hb : decide (xs = ys) = b) (h2 : wpTake P ops S K rest (a.put o.dst (.bool (!b)))) : wpTake P ops S K (o :: rest) a := by
  refine wpTake_cons (v := .bool (!b)) (.inl ⟨hgd, fun w _ => ?_⟩) h2
  have h := hE w xs ys hl hl'
  rw [hb] at h
  unfold Oper.quietAt
  simp only [execOp, ho, hx, hy]
  go_simp <;> exact ⟨rfl, rfl⟩
theorem take_eql_t (hgd : Region.wanted o (yielded ops a.tmps) = true) {t r : TypeId} {x y : Operand} (ho : o.op = .binOp .eql t x y r) {xs ys : List Int} {n : Nat} (hx : a.eval x = .agg (vals .u64 xs)) (hy : a.eval y = .agg (vals .u64 ys)) (hE : EqOK P 10000 t n) (hg : P.eqGuardType P.depth t = false)
    (hl : xs.length = n) (hl' : ys.length = n) (h : xs = ys) (h2 : wpTake P ops S K rest (a.put o.dst (.bool true))) : wpTake P ops S K (o :: rest) a := take_eql hgd ho hx hy hE hg hl hl' (b := true) (decide_eq_true h) h2
theorem take_eql_f (hgd : Region.wanted o (yielded ops a.tmps) = true) {t r : TypeId} {x y : Operand} (ho : o.op = .binOp .eql t x y r) {xs ys : List Int} {n : Nat} (hx : a.eval x = .agg (vals .u64 xs)) (hy : a.eval y = .agg (vals .u64 ys)) (hE : EqOK P 10000 t n) (hg : P.eqGuardType P.depth t = false)
    (hl : xs.length = n) (hl' : ys.length = n) (h : xs ≠ ys) (h2 : wpTake P ops S K rest (a.put o.dst (.bool false))) : wpTake P ops S K (o :: rest) a := take_eql hgd ho hx hy hE hg hl hl' (b := false) (decide_eq_false h) h2
theorem take_neq_t (hgd : Region.wanted o (yielded ops a.tmps) = true) {t r : TypeId} {x y : Operand} (ho : o.op = .binOp .neq t x y r) {xs ys : List Int} {n : Nat} (hx : a.eval x = .agg (vals .u64 xs)) (hy : a.eval y = .agg (vals .u64 ys)) (hE : EqOK P 10000 t n) (hg : P.eqGuardType P.depth t = false)
    (hl : xs.length = n) (hl' : ys.length = n) (h : xs = ys) (h2 : wpTake P ops S K rest (a.put o.dst (.bool false))) : wpTake P ops S K (o :: rest) a := take_neq hgd ho hx hy hE hg hl hl' (b := true) (decide_eq_true h) h2
theorem take_neq_f (hgd : Region.wanted o (yielded ops a.tmps) = true) {t r : TypeId} {x y : Operand} (ho : o.op = .binOp .neq t x y r) {xs ys : List Int} {n : Nat} (hx : a.eval x = .agg (vals .u64 xs)) (hy : a.eval y = .agg (vals .u64 ys)) (hE : EqOK P 10000 t n) (hg : P.eqGuardType P.depth t = false)
    (hl : xs.length = n) (hl' : ys.length = n) (h : xs ≠ ys) (h2 : wpTake P ops S K rest (a.put o.dst (.bool true))) : wpTake P ops S K (o :: rest) a := take_neq hgd ho hx hy hE hg hl hl' (b := false) (decide_eq_false h) h2
end
theorem built_none {P : Program} {t : TypeId} {pl : List (Nat × Nat)} {z : List Int} (hB : Built P t pl z) : P.built t [] = some (vals .u64 z) := hB []
theorem built_a {P : Program} {t : TypeId} {n : Nat} {xs : List Int} (hB : Built P t [(0, n), (n, n)] (List.replicate (n + n) 0)) (hx : xs.length = n) : P.built t [(0, .agg (vals .u64 xs))] = some (vals .u64 (xs ++ List.replicate n 0)) := by
  rw [hB, fill_part (off := 0) (n := n) rfl hx (by simp)]
  simp [Instr.fill]
theorem built_b {P : Program} {t : TypeId} {n : Nat} {xs : List Int} (hB : Built P t [(0, n), (n, n)] (List.replicate (n + n) 0)) (hx : xs.length = n) : P.built t [(1, .agg (vals .u64 xs))] = some (vals .u64 (List.replicate n 0 ++ xs)) := by
  rw [hB, fill_part (off := n) (n := n) rfl hx (by simp)]
  simp [Instr.fill]
end Go.Proofs.YtpnpiiocpjbffaaDoor.Reg

/-
  Own text. '==' on structures of some parts of one size.
-/
namespace Go.Proofs.YtpnpiiocpjbffaaDoor.Reg
set_option linter.unusedVariables false
open Go
theorem segs_eq {n : Nat} : ∀ (m : Nat) (xs ys : List Int), xs.length = m * n → ys.length = m * n → (∀ i, i < m → seg (i * n) n xs = seg (i * n) n ys) → xs = ys
  | 0, xs, ys, hx, hy, _ => by
    rw [Nat.zero_mul] at hx hy
    rw [List.eq_nil_of_length_eq_zero hx, List.eq_nil_of_length_eq_zero hy]
  | m + 1, xs, ys, hx, hy, h => by
    rw [Nat.succ_mul] at hx hy
    have h0 := h 0 (by omega)
    rw [Nat.zero_mul, seg, seg, List.drop_zero, List.drop_zero] at h0
    have h1 := segs_eq (n := n) m (xs.drop n) (ys.drop n) (by rw [List.length_drop]; omega) (by rw [List.length_drop]; omega) (fun i hi => by
      rw [seg, seg, List.drop_drop, List.drop_drop, show n + i * n = (i + 1) * n by rw [Nat.succ_mul, Nat.add_comm]]
      exact h (i + 1) (by omega))
    rw [← List.take_append_drop n xs, ← List.take_append_drop n ys, h0, h1]
theorem eqok_parts {P : Program} {d n m : Nat} {t e : TypeId} {de : TypeDesc} (h : EqOK P d e n) (hu : P.underlying e = some de) (hd : (match de with | .struct _ | .array _ _ => true | _ => false) = true) (hi : (P.info? e).map (·.size) = some n) (ht : P.underlying t = some (.struct (P.fieldsOf t))) (hp : P.stoodInHeld t = false)
    (hf : (P.fieldsOf t).toList.map (fun f => (decide (f.name = "_"), f.type, f.offset)) = (List.range m).map fun i => (false, e, i * n)) : EqOK P (d + 1) t (m * n) := fun w xs ys hx hy => by
  rw [run_equalIn_struct w d t _ _ ht hp]
  generalize (P.fieldsOf t).toList = fs at hf
  have hl : fs.length = m := by
    have := congrArg List.length hf
    simpa using this
  have at_ : ∀ i f, fs[i]? = some f → i < m ∧ f.name ≠ "_" ∧ f.type = e ∧ f.offset = i * n := fun i f hif => by
    have h1 : i < fs.length := (List.getElem?_eq_some_iff.1 hif).1
    have h2 : (fs.map (fun f => (decide (f.name = "_"), f.type, f.offset)))[i]? = some (decide (f.name = "_"), f.type, f.offset) := by rw [List.getElem?_map, hif]; rfl
    rw [hf, List.getElem?_map, List.getElem?_range (by omega)] at h2
    simp only [Option.map_some, Option.some.injEq, Prod.mk.injEq] at h2
    exact ⟨by omega, by simpa using h2.1.symm, h2.2.1.symm, h2.2.2.symm⟩
  have le_ : ∀ i, i < m → i * n + n ≤ m * n := fun i hi => by
    have := Nat.mul_le_mul_right n (show i + 1 ≤ m by omega)
    rwa [Nat.succ_mul] at this
  rw [eqFields_segs h hu hd hi fs (fun f hm => by
    obtain ⟨i, hif⟩ := List.mem_iff_getElem?.1 hm
    obtain ⟨h1, h2, h3, h4⟩ := at_ i f hif
    have := le_ i h1
    exact ⟨h2, h3, by rw [h4, hx]; exact this, by rw [h4, hy]; exact this⟩)]
  congr 1
  rw [Bool.eq_iff_iff]
  simp only [List.all_eq_true, decide_eq_true_eq]
  constructor
  · intro hh
    refine segs_eq m xs ys hx hy (fun i hi => ?_)
    obtain ⟨f, hif⟩ : ∃ f, fs[i]? = some f := ⟨_, List.getElem?_eq_getElem (by omega)⟩
    have := hh f (List.mem_of_getElem? hif)
    rwa [(at_ i f hif).2.2.2] at this
  · intro hh f _
    rw [hh]
end Go.Proofs.YtpnpiiocpjbffaaDoor.Reg

/-
  Own text. What a function knows of its own blocks, all at once, and short rules for what is done with them.
-/
namespace Go.Proofs.YtpnpiiocpjbffaaDoor.Reg
set_option linter.unusedVariables false
set_option linter.unusedSectionVars false
open Go
/-- n cells, of one cell each. -/
class Cz (n : outParam Nat) (cs : Array Value) : Prop where
  sz : cs.size = n
  one : cs.all (·.oneCell') = true
def aggD : TypeDesc → Bool
  | .struct _ | .array _ _ => true
  | _ => false
/-- A type whose values are n cells side by side. -/
class Agg (P : Program) (t : TypeId) (n : outParam Nat) : Prop where
  und : ∃ d, P.underlying t = some d ∧ aggD d = true
  inf : (P.info? t).map (·.size) = some n
theorem Agg.of {P : Program} {t : TypeId} {n : Nat} {d : TypeDesc} (hu : P.underlying t = some d) (hi : (P.info? t).map (·.size) = some n) (hd : aggD d = true) : Agg P t n := ⟨⟨d, hu, hd⟩, hi⟩
structure Blk where
  g : Nat
  t : TypeId
  cs : Array Value
/-- The blocks that a function has made, in a world behind the one that it began in. -/
structure Kn (S : Nat) (w : World) (l : List Blk) (x : World) : Prop where
  bel : RowKit.Below S w x
  sz : S ≤ x.heap.size
  has : ∀ b ∈ l, Has x b.g b.t b.cs
  lo : ∀ g ∈ l.map Blk.g, S ≤ g
  nd : (l.map Blk.g).Nodup
theorem map_set_g : ∀ {l : List Blk} {j : Nat} {b v : Blk}, l[j]? = some b → v.g = b.g → (l.set j v).map Blk.g = l.map Blk.g
  | [], _, _, _, h, _ => by simp at h
  | c :: l, 0, b, v, h, hg => by
    obtain rfl : c = b := by simpa using h
    simp [hg]
  | c :: l, j + 1, b, v, h, hg => by
    have := map_set_g (l := l) (j := j) (b := b) (v := v) (by simpa using h) hg
    simp [this]
section
variable {S : Nat} {w x y : World} {l : List Blk} {b : Blk} {j n : Nat} {P : Program} {ops : Array Oper} {rest : List Oper} {o : Oper} {a : Act} {Q : Exit → Act → World → Prop} {md : Region.Mode} {K : Act → Prop}
theorem Kn.mem (H : Kn S w l x) (hj : l[j]? = some b) : Has x b.g b.t b.cs := H.has b (List.mem_of_getElem? hj)
theorem Kn.at {g t : Nat} {cs : Array Value} (H : Kn S w l x) (i : Nat) (hi : l[i]? = some ⟨g, t, cs⟩) : Has x g t cs := H.has ⟨g, t, cs⟩ (List.mem_of_getElem? hi)
theorem Kn.lo_ (H : Kn S w l x) (hj : l[j]? = some b) : S ≤ b.g := H.lo _ (List.mem_map.2 ⟨b, List.mem_of_getElem? hj, rfl⟩)
theorem Kn.keep (H : Kn S w l x) (h : RowKit.Below x.heap.size x y) : Kn S w l y := ⟨H.bel.trans (h.mono H.sz), Nat.le_trans H.sz h.size, fun b hb => (H.has b hb).keep h, H.lo, H.nd⟩
theorem Kn.nil (hS : w.heap.size = S) : Kn S w [] w := ⟨RowKit.Below.refl _ _, by omega, fun _ h => by simp at h, fun _ h => by simp at h, by simp⟩
theorem Kn.ne (H : Kn S w l x) (hj : l[j]? = some b) {k : Nat} {c : Blk} (hk : l[k]? = some c) (hne : k ≠ j) : c.g ≠ b.g := fun he => by
  have hk' : (l.map Blk.g)[k]? = some c.g := by rw [List.getElem?_map, hk]; rfl
  have hj' : (l.map Blk.g)[j]? = some b.g := by rw [List.getElem?_map, hj]; rfl
  have hlt : k < (l.map Blk.g).length := (List.getElem?_eq_some_iff.1 hk').1
  exact hne ((List.getElem?_inj hlt H.nd).1 (by rw [hk', hj', he]))
theorem Kn.set (H : Kn S w l x) (hj : l[j]? = some b) {cs : Array Value} (hh : Has y b.g b.t cs) (hb : But b.g x y) : Kn S w (l.set j ⟨b.g, b.t, cs⟩) y := by
  have hm := map_set_g (v := ⟨b.g, b.t, cs⟩) hj rfl
  refine ⟨H.bel.trans (hb.below (H.lo_ hj) H.sz), Nat.le_trans H.sz hb.size, fun c hc => ?_, by rw [hm]; exact H.lo, by rw [hm]; exact H.nd⟩
  obtain ⟨k, hk⟩ := List.mem_iff_getElem?.1 hc
  rw [List.getElem?_set] at hk
  split at hk
  · split at hk
    · obtain rfl := Option.some.inj hk
      exact hh
    · cases hk
  · rename_i hne
    exact hb.has (H.mem hk) (H.ne hj hk (Ne.symm hne))
theorem Kn.push (H : Kn S w l x) {g : Nat} (c : Array Value) (t : TypeId) (hx : x.heap.size = g) : Kn S w (l ++ [⟨g, t, c⟩]) (x.alloc (.cells c t)) := by
  subst hx
  have hb : RowKit.Below x.heap.size x (x.alloc (.cells c t)) := (RowKit.Below.refl _ _).alloc (Nat.le_refl _) _
  have H' := H.keep hb
  refine ⟨H'.bel, H'.sz, fun b hb => ?_, fun g hg => ?_, ?_⟩
  · rcases List.mem_append.1 hb with h | h
    · exact H'.has b h
    · obtain rfl : b = ⟨x.heap.size, t, c⟩ := by simpa using h
      exact Has.new _ _ _
  · rw [List.map_append] at hg
    rcases List.mem_append.1 hg with h | h
    · exact H.lo g h
    · obtain rfl : g = x.heap.size := by simpa using h
      exact H.sz
  · rw [List.map_append, List.nodup_append]
    refine ⟨H.nd, by simp, fun g hg k hk => ?_⟩
    obtain rfl : k = x.heap.size := by simpa using hk
    obtain ⟨b, hb, rfl⟩ := List.mem_map.1 hg
    exact Nat.ne_of_lt (H.has b hb).lt
theorem kn1 (hS : w.heap.size = S) (c1 : Array Value) (t1 : TypeId) : ∃ x, Kn S w [⟨S, t1, c1⟩] x ∧ Keep (w.alloc (.cells c1 t1) = x) := ⟨_, (Kn.nil hS).push c1 t1 hS, ⟨rfl⟩⟩
theorem kn2 (hS : w.heap.size = S) (c1 : Array Value) (t1 : TypeId) (c2 : Array Value) (t2 : TypeId) : ∃ x, Kn S w [⟨S, t1, c1⟩, ⟨S + 1, t2, c2⟩] x ∧ Keep ((w.alloc (.cells c1 t1)).alloc (.cells c2 t2) = x) := ⟨_, ((Kn.nil hS).push c1 t1 hS).push c2 t2 (by simp only [World.size_alloc, hS]), ⟨rfl⟩⟩
theorem kn3 (hS : w.heap.size = S) (c1 : Array Value) (t1 : TypeId) (c2 : Array Value) (t2 : TypeId) (c3 : Array Value) (t3 : TypeId) : ∃ x, Kn S w [⟨S, t1, c1⟩, ⟨S + 1, t2, c2⟩, ⟨S + 2, t3, c3⟩] x ∧ Keep (((w.alloc (.cells c1 t1)).alloc (.cells c2 t2)).alloc (.cells c3 t3) = x) := ⟨_, (((Kn.nil hS).push c1 t1 hS).push c2 t2 (by simp only [World.size_alloc, hS])).push c3 t3 (by simp only [World.size_alloc, hS]), ⟨rfl⟩⟩
theorem kn4 (hS : w.heap.size = S) (c1 : Array Value) (t1 : TypeId) (c2 : Array Value) (t2 : TypeId) (c3 : Array Value) (t3 : TypeId) (c4 : Array Value) (t4 : TypeId) : ∃ x, Kn S w [⟨S, t1, c1⟩, ⟨S + 1, t2, c2⟩, ⟨S + 2, t3, c3⟩, ⟨S + 3, t4, c4⟩] x ∧ Keep ((((w.alloc (.cells c1 t1)).alloc (.cells c2 t2)).alloc (.cells c3 t3)).alloc (.cells c4 t4) = x) := ⟨_, ((((Kn.nil hS).push c1 t1 hS).push c2 t2 (by simp only [World.size_alloc, hS])).push c3 t3 (by simp only [World.size_alloc, hS])).push c4 t4 (by simp only [World.size_alloc, hS]), ⟨rfl⟩⟩
theorem wp_at {c : Code} (h : Keep (x = y)) (k : c.wp P Q a y) : c.wp P Q a x := h.out ▸ k
theorem wpl_at {lo : List Oper} (h : Keep (x = y)) (k : wpList P ops Q lo a y) : wpList P ops Q lo a x := h.out ▸ k
/-- What holds behind a function's beginning, whatever it has made. -/
theorem keepB {G : World → Prop} (hS : w.heap.size = S) (h : G w) (hk : ∀ {u v : World}, G u → RowKit.Below u.heap.size u v → G v) : Keep (∀ x, RowKit.Below S w x → G x) := ⟨fun x hb => hk h (by rw [hS]; exact hb)⟩
theorem Kn.up (H : Kn S w l x) (hj : l[j]? = some b) (h : But b.g x y) : RowKit.Below S w y := H.bel.trans (h.below (H.lo_ hj) H.sz)
theorem Kn.upq (H : Kn S w l x) (h : But x.heap.size x y) : RowKit.Below S w y := H.bel.trans (h.below H.sz H.sz)
theorem Kn.upG {G : World → Prop} {gb tb : Nat} {cb : Array Value} (H : Kn S w l x) (j : Nat) (hj : l[j]? = some ⟨gb, tb, cb⟩) (h : Keep (∀ x, RowKit.Below S w x → G x)) (hb : But gb x y) : G y := h.out _ (H.up hj hb)
theorem Kn.upqG {G : World → Prop} (H : Kn S w l x) (h : Keep (∀ x, RowKit.Below S w x → G x)) (hb : But x.heap.size x y) : G y := h.out _ (H.upq hb)
theorem but_drew (g : Nat) (x : World) : But g x x.drew := .of (w := x) (w' := x.drew) ⟨rfl, rfl, rfl, Nat.le_refl _, fun _ _ => rfl⟩ g
/-- Drawn regions may be walked; their n reads may be taken in the order of the text. -/
class Mix (P : Program) : Prop where
  mix : P.follows .mixedOrders = true
def readsOK (lo : List Oper) (n f : Nat) : Bool := Region.noSelect lo.toArray && readsB .any lo.toArray n 0 (Array.replicate lo.toArray.size false) && Nat.beq (n + f) lo.toArray.size
/-- A drawn region that stores into block j, or into none. -/
theorem Kn.reads {id : Nat} [hM : Mix P] {lo : List Oper} (H : Kn S w l x) (n f j : Nat) {gb tb : Nat} {cb : Array Value}
    (hj : l[j]? = some ⟨gb, tb, cb⟩)
    (hR : readsOK lo n f = true)
    (hQ : ∀ c a d v w, Q (.panic c) (Act.put a d v) w → Q (.panic c) a w) (h : wpTake P lo.toArray (But gb x) (fun a' => wpAnyU P .any lo.toArray Q (But gb x) f (firstN n 0 (Array.replicate lo.toArray.size false)) a' x.drew) (lo.take n) a) : (Code.region id lo.toArray true).wp P Q a x := by
  simp only [readsOK, Bool.and_eq_true] at hR
  exact wp_reads n f gb hM.mix hR.1.1 (Nat.eq_of_beq_eq_true hR.2) hR.1.2 hQ h
theorem Kn.quiet {id : Nat} [hM : Mix P] {lo : List Oper} (H : Kn S w l x) (n f : Nat)
    
    (hR : readsOK lo n f = true)
    (hQ : ∀ c a d v w, Q (.panic c) (Act.put a d v) w → Q (.panic c) a w) (h : wpTake P lo.toArray (But x.heap.size x) (fun a' => wpAnyU P .any lo.toArray Q (But x.heap.size x) f (firstN n 0 (Array.replicate lo.toArray.size false)) a' x.drew) (lo.take n) a) : (Code.region id lo.toArray true).wp P Q a x := by
  simp only [readsOK, Bool.and_eq_true] at hR
  exact wp_reads n f x.heap.size hM.mix hR.1.1 (Nat.eq_of_beq_eq_true hR.2) hR.1.2 hQ h
section
variable {ty t g off m : Nat} {xs : List Int} {p q : Operand} {g' : Nat}
theorem ldOf (hh : Has x g t (vals .u64 xs)) (hne : g ≠ g') [hA : Agg P ty n] [hC : Cz m (vals .u64 xs)] (hoff : off + n ≤ m) (hgd : Region.wanted o (yielded ops a.tmps) = true) (ho : o.op = .load ty p) (hx : a.eval p = .pointer (some ⟨g, off, none⟩))
    (h : wpTake P ops (But g' x) K rest (a.put o.dst (.agg (vals .u64 (seg off n xs))))) : wpTake P ops (But g' x) K (o :: rest) a := by
  obtain ⟨d, hu, hd⟩ := hA.und
  exact take_load hgd ty ho hx (fun w hw => hw.has hh hne) hu (by cases d <;> first | rfl | (simp [aggD] at hd)) hA.inf (by have := hC.sz; rw [vals_size] at this; omega) h
theorem ldwOf {cs : Array Value} (hh : Has x g t cs) (hne : g ≠ g') [hA : Agg P ty n] [hC : Cz n cs] (hgd : Region.wanted o (yielded ops a.tmps) = true) (ho : o.op = .load ty p) (hx : a.eval p = .pointer (some ⟨g, 0, none⟩))
    (h : wpTake P ops (But g' x) K rest (a.put o.dst (.agg cs))) : wpTake P ops (But g' x) K (o :: rest) a := by
  obtain ⟨d, hu, hd⟩ := hA.und
  refine wpTake_cons (v := .agg cs) (.inl ⟨hgd, fun w1 hw => ?_⟩) h
  have hr := run_loadVar_row w1 g t ty cs (0, 0) d (hw.has hh hne).eq hu (by cases d <;> first | rfl | (simp [aggD] at hd)) (by rw [hC.sz]; exact hA.inf)
  unfold Oper.quietAt execOp
  simp only [ho, hx, Instr.loadAt, Instr.sureAddr, Sem.run_bind, Sem.run_pure, Result.andThen_ok, hr]
  exact ⟨rfl, rfl⟩
/-- Loads in a drawn region that stores into block j (here: of block i, another one); in one that stores nowhere. -/
theorem Kn.ld {gb tb : Nat} {cb : Array Value} (H : Kn S w l x) (i j : Nat) (hi : l[i]? = some ⟨g, t, vals .u64 xs⟩) (hj : l[j]? = some ⟨gb, tb, cb⟩) (hgd : Region.wanted o (yielded ops a.tmps) = true) (ho : o.op = .load ty p) (hx : a.eval p = .pointer (some ⟨g, off, none⟩))
    [hA : Agg P ty n] [hC : Cz m (vals .u64 xs)] (hij : (i == j) = false) (hoff : off + n ≤ m) (h : wpTake P ops (But gb x) K rest (a.put o.dst (.agg (vals .u64 (seg off n xs))))) : wpTake P ops (But gb x) K (o :: rest) a := ldOf (H.mem hi) (H.ne hj hi (by simpa using hij)) hoff hgd ho hx h
theorem Kn.ldw {gb tb : Nat} {cb : Array Value} (H : Kn S w l x) (i j : Nat) {cs : Array Value} (hi : l[i]? = some ⟨g, t, cs⟩) (hj : l[j]? = some ⟨gb, tb, cb⟩) (hgd : Region.wanted o (yielded ops a.tmps) = true) (ho : o.op = .load ty p) (hx : a.eval p = .pointer (some ⟨g, 0, none⟩))
    [hA : Agg P ty n] [hC : Cz n cs] (hij : (i == j) = false) (h : wpTake P ops (But gb x) K rest (a.put o.dst (.agg cs))) : wpTake P ops (But gb x) K (o :: rest) a := ldwOf (H.mem hi) (H.ne hj hi (by simpa using hij)) hgd ho hx h
theorem Kn.ldq (H : Kn S w l x) (i : Nat) (hi : l[i]? = some ⟨g, t, vals .u64 xs⟩) (hgd : Region.wanted o (yielded ops a.tmps) = true) (ho : o.op = .load ty p) (hx : a.eval p = .pointer (some ⟨g, off, none⟩))
    [hA : Agg P ty n] [hC : Cz m (vals .u64 xs)] (hoff : off + n ≤ m) (h : wpTake P ops (But x.heap.size x) K rest (a.put o.dst (.agg (vals .u64 (seg off n xs))))) : wpTake P ops (But x.heap.size x) K (o :: rest) a := ldOf (H.mem hi) (Nat.ne_of_lt (H.mem hi).lt) hoff hgd ho hx h
theorem Kn.ldwq (H : Kn S w l x) (i : Nat) {cs : Array Value} (hi : l[i]? = some ⟨g, t, cs⟩) (hgd : Region.wanted o (yielded ops a.tmps) = true) (ho : o.op = .load ty p) (hx : a.eval p = .pointer (some ⟨g, 0, none⟩))
    [hA : Agg P ty n] [hC : Cz n cs] (h : wpTake P ops (But x.heap.size x) K rest (a.put o.dst (.agg cs))) : wpTake P ops (But x.heap.size x) K (o :: rest) a := ldwOf (H.mem hi) (Nat.ne_of_lt (H.mem hi).lt) hgd ho hx h
end
section
variable {T : World → Prop} {v : Value}
/-- An operation that yields one value whatever the world; one whose guard does not hold; a call. -/
theorem tpure (hgd : Region.wanted o (yielded ops a.tmps) = true) (he : ∀ u, (execOp a.eval o).run P u = .ok (.value v) u) (h : wpTake P ops T K rest (a.put o.dst v)) : wpTake P ops T K (o :: rest) a := wpTake_cons (Steady.of_yields (.inl ⟨hgd, he⟩)) h
/-- There is an operation left. -/
theorem tstep (h : wpTake P ops T K (o :: rest) a) : wpTake P ops T K (o :: rest) a := h
theorem tskip (hgd : Region.wanted o (yielded ops a.tmps) = false) (h : wpTake P ops T K rest (a.put o.dst undef)) : wpTake P ops T K (o :: rest) a := wpTake_cons (.inr ⟨hgd, rfl⟩) h
theorem tcall (he : ∀ u, T u → o.quietAt P a (fun z => RowKit.Below u.heap.size u z) u v) (hgd : Region.wanted o (yielded ops a.tmps) = true) (h : wpTake P ops T K rest (a.put o.dst v)) : wpTake P ops T K (o :: rest) a := wpTake_cons (.inl ⟨hgd, he⟩) h
theorem tbuild {t : TypeId} {parts : Array (Nat × Operand)} {cells : Array Value} (hgd : Region.wanted o (yielded ops a.tmps) = true) (ho : o.op = .build t parts) (hf : P.built t (parts.toList.map fun p => (p.1, a.eval p.2)) = some cells) (h : wpTake P ops T K rest (a.put o.dst (.agg cells))) : wpTake P ops T K (o :: rest) a := take_build hgd ho hf h
/-- '==' and '!=' on numbers. -/
class Eqs (P : Program) (t : TypeId) (n : outParam Nat) : Prop where
  ok : EqOK P 10000 t n
  gd : P.eqGuardType P.depth t = false
section
variable {t r : TypeId} {p q : Operand} {xs ys : List Int}
theorem teq (hgd : Region.wanted o (yielded ops a.tmps) = true) (ho : o.op = .binOp .eql t p q r) (hp : a.eval p = .agg (vals .u64 xs)) (hq : a.eval q = .agg (vals .u64 ys)) [hE : Eqs P t n] [hx : Cz n (vals .u64 xs)] [hy : Cz n (vals .u64 ys)] (h : xs = ys) (k : wpTake P ops T K rest (a.put o.dst (.bool true))) : wpTake P ops T K (o :: rest) a :=
  take_eql_t hgd ho hp hq hE.ok hE.gd (by have := hx.sz; rwa [vals_size] at this) (by have := hy.sz; rwa [vals_size] at this) h k
theorem tne (hgd : Region.wanted o (yielded ops a.tmps) = true) (ho : o.op = .binOp .eql t p q r) (hp : a.eval p = .agg (vals .u64 xs)) (hq : a.eval q = .agg (vals .u64 ys)) [hE : Eqs P t n] [hx : Cz n (vals .u64 xs)] [hy : Cz n (vals .u64 ys)] (h : xs ≠ ys) (k : wpTake P ops T K rest (a.put o.dst (.bool false))) : wpTake P ops T K (o :: rest) a :=
  take_eql_f hgd ho hp hq hE.ok hE.gd (by have := hx.sz; rwa [vals_size] at this) (by have := hy.sz; rwa [vals_size] at this) h k
theorem tneq (hgd : Region.wanted o (yielded ops a.tmps) = true) (ho : o.op = .binOp .neq t p q r) (hp : a.eval p = .agg (vals .u64 xs)) (hq : a.eval q = .agg (vals .u64 ys)) [hE : Eqs P t n] [hx : Cz n (vals .u64 xs)] [hy : Cz n (vals .u64 ys)] (h : xs = ys) (k : wpTake P ops T K rest (a.put o.dst (.bool false))) : wpTake P ops T K (o :: rest) a :=
  take_neq_t hgd ho hp hq hE.ok hE.gd (by have := hx.sz; rwa [vals_size] at this) (by have := hy.sz; rwa [vals_size] at this) h k
theorem tnne (hgd : Region.wanted o (yielded ops a.tmps) = true) (ho : o.op = .binOp .neq t p q r) (hp : a.eval p = .agg (vals .u64 xs)) (hq : a.eval q = .agg (vals .u64 ys)) [hE : Eqs P t n] [hx : Cz n (vals .u64 xs)] [hy : Cz n (vals .u64 ys)] (h : xs ≠ ys) (k : wpTake P ops T K rest (a.put o.dst (.bool true))) : wpTake P ops T K (o :: rest) a :=
  take_neq_f hgd ho hp hq hE.ok hE.gd (by have := hx.sz; rwa [vals_size] at this) (by have := hy.sz; rwa [vals_size] at this) h k
end
end
section
variable {ty t g : Nat} {p q : Operand} {i f : Nat} {L : Array Bool} {cs : Array Value}
/-- A drawn region's end: a whole value stored into block j. -/
theorem Kn.tst {gb tb : Nat} {cb : Array Value} (H : Kn S w l x) (i j : Nat) (hj : l[j]? = some ⟨gb, tb, cb⟩) (hi : ops[i]? = some o) (hr : Region.ready md ops L = [i]) (he : Region.ready md ops (L.setIfInBounds i true) = [])
    (hgd : o.guard = none) (ho : o.op = .store ty p q) (hd : o.dst = none) (hx : a.eval p = .pointer (some ⟨gb, 0, none⟩)) (hy : a.eval q = .agg cs) [hA : Agg P ty n] [hC : Cz n cs] [hB : Cz n cb] (h : ∀ y, Kn S w (l.set j ⟨gb, tb, cs⟩) y → Q .normal a y) : wpAnyU P md ops Q (But gb x) 1 L a x.drew :=
  tail_store hi hr he hgd ty p q ho hd gb cs hx hy tb cb (H.mem hj) (by rw [hC.sz]; exact hA.inf) (by rw [hB.sz, hC.sz]) hC.one (fun w' h1 h2 => h w' (H.set hj h1 h2))
/-- .. and further operations behind it. -/
theorem Kn.tstm {gb tb : Nat} {cb : Array Value} (H : Kn S w l x) (i j : Nat) (hj : l[j]? = some ⟨gb, tb, cb⟩) (hi : ops[i]? = some o) (hr : Region.ready md ops L = [i])
    (hgd : o.guard = none) (ho : o.op = .store ty p q) (hd : o.dst = none) (hx : a.eval p = .pointer (some ⟨gb, 0, none⟩)) (hy : a.eval q = .agg cs) [hA : Agg P ty n] [hC : Cz n cs] [hB : Cz n cb] (h : ∀ y, Kn S w (l.set j ⟨gb, tb, cs⟩) y → wpAnyU P md ops Q (But gb x) f (L.setIfInBounds i true) a y) : wpAnyU P md ops Q (But gb x) (f + 1) L a x.drew := by
  refine wpAnyU_run hi hr (fun w1 hq => ?_)
  have hg1 : Has w1 gb tb cb := (H.mem hj).drew.keep hq
  have hb1 : But gb x w1 := (but_drew gb x).then hq
  refine wpList_store_rowTo hgd ty p q ho hd gb cs hx hy tb cb hg1.eq (by rw [hC.sz]; exact hA.inf) (by rw [hB.sz, hC.sz]) hC.one ?_
  have hb2 : But gb x (w1.setRow gb cs) := ⟨hb1.os, hb1.tape, hb1.output, by simpa using hb1.size, fun k hk hne => (setRow_other w1 gb k cs hne).trans (hb1.block k hk hne)⟩
  exact ⟨hb2, h _ (H.set hj (hg1.row cs) hb2)⟩
/-- A drawn region's end: a variable made and set; nothing. -/
theorem Kn.tnew {d : Tmp} {z : Array Value} {o' : Oper} (H : Kn S w l x) (i : Nat) (hi : ops[i]? = some o) (hj : ops[i + 1]? = some o') (hr : Region.ready md ops L = [i]) (hr' : Region.ready md ops (L.setIfInBounds i true) = [i + 1]) (he : Region.ready md ops ((L.setIfInBounds i true).setIfInBounds (i + 1) true) = [])
    (hgd : o.guard = none) (hal : o.op = .alloc ty) (hdst : o.dst = some d) (hgd' : o'.guard = none) (ho : o'.op = .store ty p q) (hd : o'.dst = none) (hx : ∀ g, (a.put (some d) (.pointer (some ⟨g, 0, none⟩))).eval p = .pointer (some ⟨g, 0, none⟩)) (hy : ∀ g, (a.put (some d) (.pointer (some ⟨g, 0, none⟩))).eval q = .agg cs)
    (hz : ∃ inf v, P.info? ty = some inf ∧ inf.zero = some v ∧ v.cells = z) [hA : Agg P ty n] [hC : Cz n cs] (hzs : z.size = n) (h : ∀ y g, Kn S w (l ++ [⟨g, ty, cs⟩]) y → Q .normal (a.put (some d) (.pointer (some ⟨g, 0, none⟩))) y) : wpAnyU P md ops Q (But x.heap.size x) 2 L a x.drew :=
  tail_new hi hj hr hr' he hgd ty d hal hdst hgd' p q ho hd cs z hx hy hz (by rw [hC.sz]; exact hA.inf) (by rw [hzs, hC.sz]) hC.one (fun w' g hg h1 h2 => h w' g (by
    have H' := H.keep h2
    refine ⟨H'.bel, H'.sz, fun b hb => ?_, fun k hk => ?_, ?_⟩
    · rcases List.mem_append.1 hb with h3 | h3
      · exact H'.has b h3
      · obtain rfl : b = ⟨g, ty, cs⟩ := by simpa using h3
        exact h1
    · rw [List.map_append] at hk
      rcases List.mem_append.1 hk with h3 | h3
      · exact H.lo k h3
      · obtain rfl : k = g := by simpa using h3
        exact Nat.le_trans H.sz hg
    · rw [List.map_append, List.nodup_append]
      refine ⟨H.nd, by simp, fun k hk m hm => ?_⟩
      obtain rfl : m = g := by simpa using hm
      obtain ⟨b, hb, rfl⟩ := List.mem_map.1 hk
      exact Nat.ne_of_lt (Nat.lt_of_lt_of_le (H.has b hb).lt hg)))
theorem Kn.tend (H : Kn S w l x) (hr : Region.ready md ops L = []) (h : ∀ y, Kn S w l y → Q .normal a y) : wpAnyU P md ops Q (But x.heap.size x) 0 L a x.drew := wpAnyU_end hr (fun y hq => h y (H.keep (⟨hq.os, hq.tape, hq.output, hq.size, hq.block⟩)))
/-- Loads of whatever block is known. -/
theorem tldw {T : World → Prop} (hh : ∀ u, T u → Has u g t cs) (hgd : Region.wanted o (yielded ops a.tmps) = true) (ho : o.op = .load ty p) (hx : a.eval p = .pointer (some ⟨g, 0, none⟩)) [hA : Agg P ty n] [hC : Cz n cs] (h : wpTake P ops T K rest (a.put o.dst (.agg cs))) : wpTake P ops T K (o :: rest) a := by
  obtain ⟨d, hu, hd⟩ := hA.und
  refine wpTake_cons (v := .agg cs) (.inl ⟨hgd, fun w1 hw => ?_⟩) h
  have hr := run_loadVar_row w1 g t ty cs (0, 0) d (hh w1 hw).eq hu (by cases d <;> first | rfl | (simp [aggD] at hd)) (by rw [hC.sz]; exact hA.inf)
  unfold Oper.quietAt execOp
  simp only [ho, hx, Instr.loadAt, Instr.sureAddr, Sem.run_bind, Sem.run_pure, Result.andThen_ok, hr]
  exact ⟨rfl, rfl⟩
theorem tld {T : World → Prop} {off m : Nat} {xs : List Int} (hh : ∀ u, T u → Has u g t (vals .u64 xs)) (hgd : Region.wanted o (yielded ops a.tmps) = true) (ho : o.op = .load ty p) (hx : a.eval p = .pointer (some ⟨g, off, none⟩))
    [hA : Agg P ty n] [hC : Cz m (vals .u64 xs)] (hoff : off + n ≤ m) (h : wpTake P ops T K rest (a.put o.dst (.agg (vals .u64 (seg off n xs))))) : wpTake P ops T K (o :: rest) a := by
  obtain ⟨d, hu, hd⟩ := hA.und
  exact take_load hgd ty ho hx hh hu (by cases d <;> first | rfl | (simp [aggD] at hd)) hA.inf (by have := hC.sz; rw [vals_size] at this; omega) h
/-- Ordinary regions. -/
theorem orow (hh : Has x g t cs) (hgd : o.guard = none) (ho : o.op = .load ty p) (hx : a.eval p = .pointer (some ⟨g, 0, none⟩)) [hA : Agg P ty n] [hC : Cz n cs] (h : wpList P ops Q rest (a.put o.dst (.agg cs)) x) : wpList P ops Q (o :: rest) a x := by
  obtain ⟨d, hu, hd⟩ := hA.und
  exact wpList_load_row hgd ty p ho g hx t cs (0, 0) d hh.eq hu (by cases d <;> first | rfl | (simp [aggD] at hd)) (by rw [hC.sz]; exact hA.inf) h
theorem oseg {off m : Nat} {xs : List Int} (hh : Has x g t (vals .u64 xs)) (hgd : o.guard = none) (ho : o.op = .load ty p) (hx : a.eval p = .pointer (some ⟨g, off, none⟩))
    [hA : Agg P ty n] [hC : Cz m (vals .u64 xs)] (hoff : off + n ≤ m) (h : wpList P ops Q rest (a.put o.dst (.agg (vals .u64 (seg off n xs)))) x) : wpList P ops Q (o :: rest) a x := by
  obtain ⟨d, hu, hd⟩ := hA.und
  refine wpList_plain hgd fun K hK => ?_
  unfold Oper.wp execOp
  simp only [ho, hx, Instr.loadAt, Instr.sureAddr, Sem.run_bind, Sem.run_pure, Result.andThen_ok, run_load_seg hh hu (by cases d <;> first | rfl | (simp [aggD] at hd)) hA.inf (rfl : seg off n xs = (xs.drop off).take n) (by have := hC.sz; rw [vals_size] at this; omega)]
  exact hK _ _ h
theorem Kn.lrow (H : Kn S w l x) (i : Nat) (hi : l[i]? = some ⟨g, t, cs⟩) (hgd : o.guard = none) (ho : o.op = .load ty p) (hx : a.eval p = .pointer (some ⟨g, 0, none⟩)) [hA : Agg P ty n] [hC : Cz n cs] (h : wpList P ops Q rest (a.put o.dst (.agg cs)) x) : wpList P ops Q (o :: rest) a x := orow (H.mem hi) hgd ho hx h
theorem Kn.lseg {off m : Nat} {xs : List Int} (H : Kn S w l x) (i : Nat) (hi : l[i]? = some ⟨g, t, vals .u64 xs⟩) (hgd : o.guard = none) (ho : o.op = .load ty p) (hx : a.eval p = .pointer (some ⟨g, off, none⟩))
    [hA : Agg P ty n] [hC : Cz m (vals .u64 xs)] (hoff : off + n ≤ m) (h : wpList P ops Q rest (a.put o.dst (.agg (vals .u64 (seg off n xs)))) x) : wpList P ops Q (o :: rest) a x := oseg (H.mem hi) hgd ho hx hoff h
theorem Kn.st {gb tb : Nat} {cb : Array Value} (H : Kn S w l x) (j : Nat) (hj : l[j]? = some ⟨gb, tb, cb⟩) (hgd : o.guard = none) (ho : o.op = .store ty p q) (hd : o.dst = none) (hx : a.eval p = .pointer (some ⟨gb, 0, none⟩)) (hy : a.eval q = .agg cs)
    [hA : Agg P ty n] [hC : Cz n cs] [hB : Cz n cb] (h : ∀ y, Kn S w (l.set j ⟨gb, tb, cs⟩) y → wpList P ops Q rest a y) : wpList P ops Q (o :: rest) a x := by
  refine wpList_store_rowTo hgd ty p q ho hd gb cs hx hy tb cb (H.mem hj).eq (by rw [hC.sz]; exact hA.inf) (by rw [hB.sz, hC.sz]) hC.one ?_
  exact h _ (H.set hj ((H.mem hj).row cs) ⟨rfl, rfl, rfl, by simp, fun k hk hne => setRow_other x gb k cs hne⟩)
theorem Kn.nv {z : Array Value} (H : Kn S w l x) (hgd : o.guard = none) (ho : o.op = .store ty p q) (hd : o.dst = none) (hx : a.eval p = .pointer (some ⟨x.heap.size, 0, none⟩)) (hy : a.eval q = .agg cs)
    [hA : Agg P ty n] [hC : Cz n cs] (hz : z.size = n) (h : ∀ y, Kn S w (l ++ [⟨x.heap.size, t, cs⟩]) y → wpList P ops Q rest a y) : wpList P ops Q (o :: rest) a (x.alloc (.cells z t)) := by
  have H' := H.push z t rfl
  have hm := H'.has ⟨x.heap.size, t, z⟩ (by simp)
  refine wpList_store_rowTo hgd ty p q ho hd x.heap.size cs hx hy t z hm.eq (by rw [hC.sz]; exact hA.inf) (by rw [hz, hC.sz]) hC.one ?_
  refine h _ ?_
  have := H'.set (j := l.length) (b := ⟨x.heap.size, t, z⟩) (by simp) (hm.row cs) ⟨rfl, rfl, rfl, by simp, fun k hk hne => setRow_other _ x.heap.size k cs hne⟩
  simpa using this
theorem Kn.call {R : Ending → World → Prop} {F : FuncId} {args : Array Value} {v : Value} (H : Kn S w l x) (c : Calls P F args x fun e y => e = .returned v ∧ RowKit.Below x.heap.size x y) (h : ∀ y, Kn S w l y → R (.returned v) y) : Calls P F args x R :=
  c.mono fun e y ⟨he, hb⟩ => by subst he; exact h y (H.keep hb)
/-- The answer is what a block holds. -/
theorem Kn.retc {fn : Func} {pp : Tmp} {V : Array Value} (H : Kn S w l x) (i : Nat) (hi : l[i]? = some ⟨g, t, cs⟩) (hres : fn.results = #[.cell pp ty]) (hp : a.tmps.getD pp undef = .pointer (some ⟨g, 0, none⟩)) (hd : a.defers = []) [hA : Agg P ty n] [hC : Cz n cs] (hv : cs = V) : bodyPost P fn (fun e y => e = .returned (.agg V) ∧ RowKit.Below S w y) .ret a x := by
  subst hv
  obtain ⟨d, hu, hdd⟩ := hA.und
  exact bodyPost_ret (results_cell_row hres _ _ g t cs (0, 0) d hp (H.mem hi).eq hu (by cases d <;> first | rfl | (simp [aggD] at hdd)) (by rw [hC.sz]; exact hA.inf)) hd ⟨rfl, H.bel⟩
theorem Kn.ret {fn : Func} {pp : Tmp} {xs V : List Int} (H : Kn S w l x) (i : Nat) (hi : l[i]? = some ⟨g, t, vals .u64 xs⟩) (hres : fn.results = #[.cell pp ty]) (hp : a.tmps.getD pp undef = .pointer (some ⟨g, 0, none⟩)) (hd : a.defers = []) [hA : Agg P ty n] [hC : Cz n (vals .u64 xs)] (hv : xs = V) : bodyPost P fn (fun e y => e = .returned (.agg (vals .u64 V)) ∧ RowKit.Below S w y) .ret a x := H.retc i hi hres hp hd (by rw [hv])
end
end
end Go.Proofs.YtpnpiiocpjbffaaDoor.Reg

/-
  Own text. Short rules, more: two variables made in whatever order and set one behind the other; blocks forgotten.
-/
namespace Go.Proofs.YtpnpiiocpjbffaaDoor.Reg
set_option linter.unusedVariables false
set_option linter.unusedSectionVars false
open Go
section
variable {S : Nat} {w x y : World} {l k : List Blk} {P : Program} {ops : Array Oper} {md : Region.Mode} {Q : Exit → Act → World → Prop} {a : Act} {L : Array Bool} {f : Nat}
theorem Kn.cut (H : Kn S w (l ++ k) x) : Kn S w l x := by
  refine ⟨H.bel, H.sz, fun b hb => H.has b (List.mem_append_left _ hb), fun g hg => H.lo g ?_, ?_⟩
  · rw [List.map_append]
    exact List.mem_append_left _ hg
  · have h := H.nd
    rw [List.map_append] at h
    exact (List.nodup_append.1 h).1
theorem Kn.more (H : Kn S w l y) {g t : Nat} {cs : Array Value} (hh : Has y g t cs) (hg : S ≤ g) (hn : ∀ b ∈ l, b.g ≠ g) : Kn S w (l ++ [⟨g, t, cs⟩]) y := by
  refine ⟨H.bel, H.sz, fun b hb => ?_, fun k hk => ?_, ?_⟩
  · rcases List.mem_append.1 hb with h3 | h3
    · exact H.has b h3
    · obtain rfl : b = ⟨g, t, cs⟩ := by simpa using h3
      exact hh
  · rw [List.map_append] at hk
    rcases List.mem_append.1 hk with h3 | h3
    · exact H.lo k h3
    · obtain rfl : k = g := by simpa using h3
      exact hg
  · rw [List.map_append, List.nodup_append]
    refine ⟨H.nd, by simp, fun k hk m hm => ?_⟩
    obtain rfl : m = g := by simpa using hm
    obtain ⟨b, hb, rfl⟩ := List.mem_map.1 hk
    exact hn b hb
theorem Kn.of_but (H : Kn S w l x) (h : But x.heap.size x y) : Kn S w l y :=
  ⟨H.upq h, Nat.le_trans H.sz h.size, fun b hb => h.has (H.has b hb) (Nat.ne_of_lt (H.has b hb).lt), H.lo, H.nd⟩
/-- Behind the reads: two variables, made in whatever order. -/
theorem Kn.uvars (H : Kn S w l x) (i j : Nat) (d e : Tmp) (t u : TypeId) (z v : Array Value) (hi : AllocAt P ops i d t z) (hj : AllocAt P ops j e u v) (hij : (i == j) = false) (hde : (d == e) = false) (hB : allocB md ops 2 [i, j] L = true)
    (h : ∀ y g g', Kn S w (l ++ [⟨g, t, z⟩] ++ [⟨g', u, v⟩]) y → But x.heap.size x y → x.heap.size ≤ g → x.heap.size ≤ g' → wpAnyU P md ops Q (But x.heap.size x) f ((L.setIfInBounds i true).setIfInBounds j true) ((a.put (some d) (.pointer (some ⟨g, 0, none⟩))).put (some e) (.pointer (some ⟨g', 0, none⟩))) y) :
    wpAnyU P md ops Q (But x.heap.size x) (f + 2) L a x.drew := by
  rw [Nat.add_comm f 2]
  have hne : i ≠ j := by simpa using hij
  have hde' : d ≠ e := by simpa using hde
  refine wpAnyU_allocs (B := x.heap.size) [i, j] (fun n => if n = i then d else e) (fun n => if n = i then t else u) (fun n => if n = i then z else v) (fun _ _ h hb => h.then hb) (by simp [hne])
    (fun p hp q hq hpq => ?_) (fun p hp => ?_) hB (but_drew _ _) (by exact (but_drew x.heap.size x).size) (fun G y hy hG hd => ?_)
  · have hp' : p = i ∨ p = j := by simpa using hp
    have hq' : q = i ∨ q = j := by simpa using hq
    rcases hp' with rfl | rfl <;> rcases hq' with rfl | rfl
    · exact absurd rfl hpq
    · simp [Ne.symm hne, hde']
    · simp [Ne.symm hne, Ne.symm hde']
    · exact absurd rfl hpq
  · have hp' : p = i ∨ p = j := by simpa using hp
    rcases hp' with rfl | rfl
    · simpa using hi
    · simpa [Ne.symm hne] using hj
  · have h1 := hG i (by simp)
    have h2 := hG j (by simp)
    have h3 := hd i (by simp) j (by simp) hne
    simp only [if_true, if_neg (Ne.symm hne)] at h1 h2
    have e1 : pts (fun n => if n = i then d else e) G a [i, j] = (a.put (some d) (.pointer (some ⟨G i, 0, none⟩))).put (some e) (.pointer (some ⟨G j, 0, none⟩)) := by
      simp [pts, Ne.symm hne]
    have e2 : lst L [i, j] = (L.setIfInBounds i true).setIfInBounds j true := rfl
    rw [e1, e2]
    have H' := H.of_but hy
    have H1 := H'.more h1.1 (Nat.le_trans H.sz h1.2) (fun b hb he => Nat.lt_irrefl _ (Nat.lt_of_lt_of_le (H.has b hb).lt (by rw [he]; exact h1.2)))
    refine h y (G i) (G j) (H1.more h2.1 (Nat.le_trans H.sz h2.2) (fun b hb he => ?_)) hy h1.2 h2.2
    rcases List.mem_append.1 hb with h4 | h4
    · exact Nat.lt_irrefl _ (Nat.lt_of_lt_of_le (H.has b h4).lt (by rw [he]; exact h2.2))
    · obtain rfl : b = ⟨G i, t, z⟩ := by simpa using h4
      exact h3 he
/-- One store is ready, into a block that was made in the region. -/
theorem Kn.ust {n : Nat} {ty t : TypeId} {p q : Operand} {g : Nat} {cs cb : Array Value} {o : Oper} (H : Kn S w l y) (hy : But x.heap.size x y) (i j : Nat) (hi : ops[i]? = some o) (hr : Region.ready md ops L = [i]) (hj : l[j]? = some ⟨g, t, cb⟩) (hg : x.heap.size ≤ g)
    (hgd : o.guard = none) (ho : o.op = .store ty p q) (hd : o.dst = none) (hx : a.eval p = .pointer (some ⟨g, 0, none⟩)) (hv : a.eval q = .agg cs) [hA : Agg P ty n] [hC : Cz n cs] (hcb : cb.size = n)
    (h : ∀ z, Kn S w (l.set j ⟨g, t, cs⟩) z → But x.heap.size x z → wpAnyU P md ops Q (But x.heap.size x) f (L.setIfInBounds i true) a z) : wpAnyU P md ops Q (But x.heap.size x) (f + 1) L a y := by
  refine wpAnyU_run hi hr (fun z hz => ?_)
  have Hz := H.keep hz
  have hm := Hz.mem hj
  refine wpList_store_rowTo hgd ty p q ho hd g cs hx hv t cb hm.eq (by rw [hC.sz]; exact hA.inf) (by rw [hcb, hC.sz]) hC.one ?_
  have hb0 : But x.heap.size x z := hy.then hz
  have hb : But x.heap.size x (z.setRow g cs) := ⟨hb0.os, hb0.tape, hb0.output, by simpa using hb0.size, fun k hk hne => (setRow_other z g k cs (by omega)).trans (hb0.block k hk hne)⟩
  exact ⟨hb, h _ (Hz.set hj (hm.row cs) ⟨rfl, rfl, rfl, by simp, fun k hk hne => setRow_other z g k cs hne⟩) hb⟩
theorem Kn.uend {n : Nat} (H : Kn S w l y) (hr : Region.ready md ops L = []) (h : ∀ z, Kn S w l z → Q .normal a z) : wpAnyU P md ops Q (But n x) 0 L a y := wpAnyU_end hr (fun z hq => h z (H.keep hq))
end
section
variable {S : Nat} {w x : World} {l : List Blk} {P : Program} {ops : Array Oper} {md : Region.Mode} {Q : Exit → Act → World → Prop} {a : Act} {L : Array Bool}
/-- Number i makes a slice written out, and lays it into slot d. -/
theorem slice_run {S' : World → Prop} {i : Nat} {d : Tmp} {o : Oper} {T et : TypeId} {len : Nat} {parts : Array (Nat × Operand)} {cs : Array Value} (hi : ops[i]? = some o) (hg : o.guard = none) (hd : o.dst = some d) (ho : o.op = .buildSlice T len parts)
    {b : Act} {y : World} (hrun : (Instr.buildSlice T len (parts.map fun (i, x) => (i, b.eval x))).run P y = .ok (.slice (some ⟨y.heap.size, 0, none⟩) len len) (y.alloc (.cells cs et))) {K : Act → World → Prop}
    (hk : K (b.put (some d) (.slice (some ⟨y.heap.size, 0, none⟩) len len)) (y.alloc (.cells cs et))) : wpOp P ops Q i K b y := by
  unfold wpOp
  simp only [hi]
  rw [if_pos (by simp [Region.wanted, hg])]
  refine .inl ?_
  unfold Oper.wp execOp
  simp only [ho, Sem.run_bind, hrun, Result.andThen_ok, Oper.upon]
  rw [hd]
  exact hk
def sliceB (md : Region.Mode) (ops : Array Oper) (L : Array Bool) (i j k m : Nat) : Bool :=
  let st := fun (M : Array Bool) p => M.setIfInBounds p true
  Region.noSelect ops && decide (Region.ready md ops L = [i, k])
    && (let M := st L i; Region.free md ops M j && (Region.ready md ops M).contains j && (let M := st M j; decide (Region.ready md ops M = [k]) && (let M := st M k; decide (Region.ready md ops M = [m]) && decide (Region.ready md ops (st M m) = []))))
    && (let M := st L k; decide (Region.ready md ops M = [i]) && (let M := st M i; Region.free md ops M j && (Region.ready md ops M).contains j && (let M := st M j; decide (Region.ready md ops M = [m]) && decide (Region.ready md ops (st M m) = []))))
theorem store_fin {m : Nat} {om : Oper} {M : Array Bool} {S' : World → Prop} {ty : TypeId} {p q : Operand} {g : Nat} {cs z : Array Value} {b : Act} {y : World} (hm : ops[m]? = some om) (hr : Region.ready md ops M = [m]) (he : Region.ready md ops (M.setIfInBounds m true) = [])
    (hgd : om.guard = none) (ho : om.op = .store ty p q) (hd : om.dst = none) (hx : b.eval p = .pointer (some ⟨g, 0, none⟩)) (hv : b.eval q = .agg cs) (hg : Has y g ty z) (hinf : (P.info? ty).map (·.size) = some cs.size) (hz : z.size = cs.size) (h1 : cs.all (·.oneCell') = true)
    (hS : ∀ u, RowKit.Below y.heap.size y u → S' (u.setRow g cs)) (h : ∀ u, (∃ v, RowKit.Below y.heap.size y v ∧ RowKit.Below (v.setRow g cs).heap.size (v.setRow g cs) u) → Q .normal b u) : wpAnyU P md ops Q S' 1 M b y := by
  refine wpAnyU_run hm hr (fun u hu => ?_)
  refine wpList_store_rowTo hgd ty p q ho hd g cs hx hv ty z (hg.keep hu).eq hinf hz h1 ?_
  exact ⟨hS u hu, he, fun v hv => h v ⟨u, hu, hv⟩⟩
/-- Behind the reads: a slice written out, a call that is handed it, a variable made and set to what the call answers. -/
theorem Kn.tslice {v : Value} {i j k m n : Nat} {d e c : Tmp} {oi oj om : Oper} {T et ty : TypeId} {len : Nat} {parts : Array (Nat × Operand)} {cs z cv : Array Value} {p q : Operand} (H : Kn S w l x) (hB : sliceB md ops L i j k m = true)
    (hi : ops[i]? = some oi) (hgi : oi.guard = none) (hdi : oi.dst = some d) (hoi : oi.op = .buildSlice T len parts)
    (hrun : ∀ y, (Instr.buildSlice T len (parts.toList.map fun (i, x) => (i, a.eval x)).toArray).run P y = .ok (.slice (some ⟨y.heap.size, 0, none⟩) len len) (y.alloc (.cells cs et)))
    (hpe : ∀ g, (parts.toList.map fun (i, x) => (i, (a.put (some e) (.pointer (some ⟨g, 0, none⟩))).eval x)) = parts.toList.map fun (i, x) => (i, a.eval x))
    (hk : AllocAt P ops k e ty z)
    (hj : ops[j]? = some oj) (hgj : oj.guard = none) (hdj : oj.dst = some c) (hv : v = .agg cv)
    (hcall : ∀ g u, But x.heap.size x u → Has u g et cs → oj.quietAt P (a.put (some d) (.slice (some ⟨g, 0, none⟩) len len)) (fun z => RowKit.Below u.heap.size u z) u v)
    (hex : ∀ g g' u, But x.heap.size x u → Has u g et cs → oj.quietAt P ((a.put (some e) (.pointer (some ⟨g', 0, none⟩))).put (some d) (.slice (some ⟨g, 0, none⟩) len len)) (fun z => RowKit.Below u.heap.size u z) u v)
    (hm : ops[m]? = some om) (hgm : om.guard = none) (hom : om.op = .store ty p q) (hdm : om.dst = none)
    (hx : ∀ g g', (((a.put (some d) (.slice (some ⟨g, 0, none⟩) len len)).put (some c) v).put (some e) (.pointer (some ⟨g', 0, none⟩))).eval p = .pointer (some ⟨g', 0, none⟩))
    (hy : ∀ g g', (((a.put (some d) (.slice (some ⟨g, 0, none⟩) len len)).put (some c) v).put (some e) (.pointer (some ⟨g', 0, none⟩))).eval q = .agg cv)
    [hA : Agg P ty n] [hC : Cz n cv] (hz : z.size = n) (hne : (d == e) = false ∧ (c == e) = false) (hQ : ∀ c a d v w, Q (.panic c) (Act.put a d v) w → Q (.panic c) a w)
    (h : ∀ u g g', Kn S w (l ++ [⟨g', ty, cv⟩]) u → Q .normal (((a.put (some d) (.slice (some ⟨g, 0, none⟩) len len)).put (some c) v).put (some e) (.pointer (some ⟨g', 0, none⟩))) u) :
    wpAnyU P md ops Q (But x.heap.size x) 4 L a x.drew := by
  simp only [sliceB, Bool.and_eq_true, decide_eq_true_eq] at hB
  obtain ⟨⟨⟨hs, h0⟩, ⟨hf1, hr1⟩, h2, h3, h4⟩, h5, ⟨hf6, hr6⟩, h7, h8⟩ := hB
  have hde : d ≠ e := by simpa using hne.1
  have hce : c ≠ e := by simpa using hne.2
  have hinf : (P.info? ty).map (·.size) = some cv.size := by rw [hC.sz]; exact hA.inf
  have hzs : z.size = cv.size := by rw [hz, hC.sz]
  have hup : ∀ g (u u' : World), (But x.heap.size x u ∧ Has u g et cs) → RowKit.Below u.heap.size u u' → But x.heap.size x u' ∧ Has u' g et cs := fun g u u' h hb => ⟨h.1.then hb, h.2.keep hb⟩
  have hst : ∀ g b, (∀ u, But x.heap.size x u → Has u g et cs → oj.quietAt P b (fun z => RowKit.Below u.heap.size u z) u v) → Steady P ops (fun u => But x.heap.size x u ∧ Has u g et cs) oj v b := fun g b he => .inl ⟨by simp [Region.wanted, hgj], fun u hu => he u hu.1 hu.2⟩
  have hpm : ∀ b : Act, (parts.map fun (i, x) => (i, b.eval x)) = (parts.toList.map fun (i, x) => (i, b.eval x)).toArray := fun b => by rw [← Array.toList_map]
  have fin : ∀ (g g' : Nat) (M : Array Bool) (y : World) (S' : World → Prop), Region.ready md ops M = [m] → Region.ready md ops (M.setIfInBounds m true) = [] → But x.heap.size x y → Has y g et cs → Has y g' ty z → x.heap.size ≤ g' → g ≠ g' → (∀ u, (But x.heap.size x u ∧ Has u g et cs) → S' u) →
      wpAnyU P md ops Q S' 1 M (((a.put (some d) (.slice (some ⟨g, 0, none⟩) len len)).put (some c) v).put (some e) (.pointer (some ⟨g', 0, none⟩))) y := by
    intro g g' M y S' hr he hy0 hgs hgv hge hgg hS'
    have hbut : ∀ u, RowKit.Below y.heap.size y u → But x.heap.size x (u.setRow g' cv) := fun u hu => by
      have hb0 := hy0.then hu
      exact ⟨hb0.os, hb0.tape, hb0.output, by simpa using hb0.size, fun k hk hne => (setRow_other u g' k cv (by omega)).trans (hb0.block k hk hne)⟩
    have hon : ∀ u : World, But g' u (u.setRow g' cv) := fun u => ⟨rfl, rfl, rfl, by simp, fun k hk hne => setRow_other u g' k cv hne⟩
    refine store_fin hm hr he hgm hom hdm (hx g g') (hy g g') hgv hinf hzs hC.one (fun u hu => hS' _ ⟨hbut u hu, (hon u).has (hgs.keep hu) hgg⟩) (fun u hu => ?_)
    obtain ⟨u1, hu1, hu2⟩ := hu
    have hb := (hbut u1 hu1).then hu2
    exact h u g g' ((H.of_but hb).more (((hgv.keep hu1).row cv).keep hu2) (Nat.le_trans H.sz hge) (fun b hb he => Nat.lt_irrefl _ (Nat.lt_of_lt_of_le (H.has b hb).lt (by rw [he]; exact hge))))
  have hal : ∀ (y : World) c, RowKit.Below y.heap.size y (y.alloc c) := fun y c => (RowKit.Below.refl _ _).alloc (Nat.le_refl _) _
  refine ⟨by rw [h0]; simp, fun r hr u hu => ?_⟩
  have hbu : But x.heap.size x u := (but_drew _ _).then hu
  rw [h0] at hr
  have hr' : r = i ∨ r = k := by simpa using hr
  rcases hr' with rfl | rfl
  · refine slice_run (S' := fun _ => True) hi hgi hdi hoi (by rw [hpm]; exact hrun u) ⟨hbu.then (hal _ _), ?_⟩
    have hg : Has (u.alloc (.cells cs et)) u.heap.size et cs := Has.new _ _ _
    have hb1 := hbu.then (hal u (.cells cs et))
    refine wpAnyU_weaken (S' := fun y => But x.heap.size x y ∧ Has y u.heap.size et cs) (fun _ h => h.1) ?_
    refine wpAnyU_take (hup _) hj hs hf1 hr1 hQ ⟨hb1, hg⟩ (hst _ _ (hcall _)) ?_
    rw [hdj]
    refine ⟨by rw [h2]; simp, fun r hr y hy => ?_⟩
    rw [h2] at hr
    obtain rfl : r = k := by simpa using hr
    have hgy := hg.keep hy
    have hb2 := (hb1.then hy).then (hal y (.cells z ty))
    refine hk.run ⟨⟨hb2, hgy.keep (hal _ _)⟩, ?_⟩
    exact fin _ _ _ _ _ h3 h4 hb2 (hgy.keep (hal _ _)) (Has.new _ _ _) (hb1.then hy).size (Nat.ne_of_lt hgy.lt) (fun _ h => h)
  · refine hk.run ⟨hbu.then (hal _ _), ?_⟩
    have hb1 := hbu.then (hal u (.cells z ty))
    have hgv : Has (u.alloc (.cells z ty)) u.heap.size ty z := Has.new _ _ _
    refine ⟨by rw [h5]; simp, fun r hr y hy => ?_⟩
    rw [h5] at hr
    obtain rfl : r = i := by simpa using hr
    have hgy := hgv.keep hy
    have hb2 := (hb1.then hy).then (hal y (.cells cs et))
    refine slice_run (S' := fun _ => True) hi hgi hdi hoi (by rw [hpm, hpe]; exact hrun y) ⟨hb2, ?_⟩
    have hg : Has (y.alloc (.cells cs et)) y.heap.size et cs := Has.new _ _ _
    refine wpAnyU_weaken (S' := fun u => But x.heap.size x u ∧ Has u y.heap.size et cs) (fun _ h => h.1) ?_
    refine wpAnyU_take (hup _) hj hs hf6 hr6 hQ ⟨hb2, hg⟩ (hst _ _ (hex _ _)) ?_
    rw [hdj]
    have e1 : ((a.put (some e) (.pointer (some ⟨u.heap.size, 0, none⟩))).put (some d) (.slice (some ⟨y.heap.size, 0, none⟩) len len)).put (some c) v = ((a.put (some d) (.slice (some ⟨y.heap.size, 0, none⟩) len len)).put (some c) v).put (some e) (.pointer (some ⟨u.heap.size, 0, none⟩)) := by
      rw [Act.put_comm a _ _ (fun t h1 h2 => hde (by injection h1 with h1; injection h2 with h2; rw [h1, h2])), Act.put_comm _ _ _ (fun t h1 h2 => hce (by injection h1 with h1; injection h2 with h2; rw [h1, h2]))]
    rw [e1]
    exact fin _ _ _ _ _ h7 h8 hb2 hg (hgy.keep (hal _ _)) hbu.size (Ne.symm (Nat.ne_of_lt hgy.lt)) (fun _ h => h)
end
end Go.Proofs.YtpnpiiocpjbffaaDoor.Reg

/-
  Own text. Blocks whose cells are of more than one kind: parts put side by side; loads of a part, of one cell; structures written out of parts.
-/
namespace Go.Proofs.YtpnpiiocpjbffaaDoor.Reg
set_option linter.unusedVariables false
set_option linter.unusedSectionVars false
open Go
/-- Of these cells, those from off on, n of them. -/
class Prt (cs : Array Value) (off n : Nat) (out : outParam (Array Value)) : Prop where
  eq : cs.extract off (off + n) = out
  sz : out.size = n
/-- One cell. -/
class Cel (cs : Array Value) (off : Nat) (v : outParam Value) : Prop where
  eq : cs[off]? = some v
section
variable {A B : Array Value} {m n off : Nat} {out : Array Value} {v : Value}
theorem cz_app (a : Cz m A) (b : Cz n B) : Cz (m + n) (A ++ B) := ⟨by rw [Array.size_append, a.sz, b.sz], by rw [Array.all_append, a.one, b.one]; rfl⟩
instance cz_bool {b : Bool} : Cz 1 #[.bool b] := ⟨rfl, by simp [Value.oneCell']⟩
instance cz_int {k : IntKind} {z : Int} : Cz 1 #[.int k z] := ⟨rfl, by simp [Value.oneCell']⟩
instance part_all [a : Cz n A] : Prt A 0 n A := ⟨by rw [Nat.zero_add, ← a.sz, Array.extract_size], a.sz⟩
theorem part_left [a : Prt A off n out] : Prt (A ++ B) off n out := ⟨by
  have h := a.sz
  rw [← a.eq, Array.size_extract] at h
  rw [Array.extract_append]
  by_cases hn : n = 0
  · subst hn
    have e := a.eq
    rw [Nat.add_zero] at e ⊢
    rw [e, Array.extract_empty_of_stop_le_start (Nat.le_refl _), Array.append_empty]
  · rw [a.eq, Array.extract_empty_of_stop_le_start (by omega), Array.append_empty], a.sz⟩
theorem part_right [a : Cz m A] [b : Cz n B] : Prt (A ++ B) m n B := ⟨by
  rw [Array.extract_append, ← a.sz, Array.extract_empty_of_size_le_start (Nat.le_refl _), Array.empty_append, Nat.sub_self, Nat.add_sub_cancel_left, ← b.sz, Array.extract_size], b.sz⟩
theorem cel_right [a : Cz m A] : Cel (A ++ #[v]) m v := ⟨by rw [← a.sz, Array.getElem?_append_right (Nat.le_refl _), Nat.sub_self]; rfl⟩
end
/-- A type of one cell. -/
class Sca (P : Program) (t : TypeId) : Prop where
  und : ∃ d, P.underlying t = some d ∧ aggD d = false
section
variable {S : Nat} {w x y : World} {l : List Blk} {n off : Nat} {P : Program} {ops : Array Oper} {rest : List Oper} {o : Oper} {a : Act} {Q : Exit → Act → World → Prop} {K : Act → Prop} {ty t g : Nat} {p : Operand} {cs out : Array Value} {v : Value} {T : World → Prop}
theorem run_part (hh : Has x g t cs) [hA : Agg P ty n] [hP : Prt cs off n out] : (loadVar ty ⟨g, off, none⟩).run P x = .ok (.agg out) x := by
  obtain ⟨d, hu, hd⟩ := hA.und
  have h := run_loadVar_mid x g off ty out.toList d (fun j v hv => by
    rw [hh.cell]
    have he : out.toList[j]? = out[j]? := Array.getElem?_toList ..
    rw [he, ← hP.eq, Array.getElem?_extract] at hv
    split at hv
    · exact hv
    · cases hv) hu (by cases d <;> first | rfl | (simp [aggD] at hd)) (by rw [Array.length_toList, hP.sz]; exact hA.inf)
  simpa using h
theorem run_cel (hh : Has x g t cs) [hA : Sca P ty] [hP : Cel cs off v] : (loadVar ty ⟨g, off, none⟩).run P x = .ok v x := by
  obtain ⟨d, hu, hd⟩ := hA.und
  have hagg : (isAgg ty).run P x = .ok false x := by
    unfold isAgg
    rw [Sem.run_bind, run_underlying hu x]
    cases d <;> first | rfl | (simp [aggD] at hd)
  have hc := hh.cell off
  rw [hP.eq] at hc
  simp [loadVar, Sem.run_bind, hagg, hc]
theorem opart (hh : Has x g t cs) (hgd : o.guard = none) (ho : o.op = .load ty p) (hx : a.eval p = .pointer (some ⟨g, off, none⟩)) [hA : Agg P ty n] [hP : Prt cs off n out] (h : wpList P ops Q rest (a.put o.dst (.agg out)) x) : wpList P ops Q (o :: rest) a x := by
  refine wpList_plain hgd fun K hK => ?_
  unfold Oper.wp execOp
  simp only [ho, hx, Instr.loadAt, Instr.sureAddr, Sem.run_bind, Sem.run_pure, Result.andThen_ok, run_part hh]
  exact hK _ _ h
theorem ocel (hh : Has x g t cs) (hgd : o.guard = none) (ho : o.op = .load ty p) (hx : a.eval p = .pointer (some ⟨g, off, none⟩)) [hA : Sca P ty] [hP : Cel cs off v] (h : wpList P ops Q rest (a.put o.dst v) x) : wpList P ops Q (o :: rest) a x := by
  refine wpList_plain hgd fun K hK => ?_
  unfold Oper.wp execOp
  simp only [ho, hx, Instr.loadAt, Instr.sureAddr, Sem.run_bind, Sem.run_pure, Result.andThen_ok, run_cel hh]
  exact hK _ _ h
theorem Kn.lp (H : Kn S w l x) (i : Nat) (hi : l[i]? = some ⟨g, t, cs⟩) (hgd : o.guard = none) (ho : o.op = .load ty p) (hx : a.eval p = .pointer (some ⟨g, off, none⟩)) [hA : Agg P ty n] [hP : Prt cs off n out] (h : wpList P ops Q rest (a.put o.dst (.agg out)) x) : wpList P ops Q (o :: rest) a x := opart (H.at i hi) hgd ho hx h
theorem Kn.lc (H : Kn S w l x) (i : Nat) (hi : l[i]? = some ⟨g, t, cs⟩) (hgd : o.guard = none) (ho : o.op = .load ty p) (hx : a.eval p = .pointer (some ⟨g, off, none⟩)) [hA : Sca P ty] [hP : Cel cs off v] (h : wpList P ops Q rest (a.put o.dst v) x) : wpList P ops Q (o :: rest) a x := ocel (H.at i hi) hgd ho hx h
theorem tpart (hh : ∀ u, T u → Has u g t cs) (hgd : Region.wanted o (yielded ops a.tmps) = true) (ho : o.op = .load ty p) (hx : a.eval p = .pointer (some ⟨g, off, none⟩)) [hA : Agg P ty n] [hP : Prt cs off n out] (h : wpTake P ops T K rest (a.put o.dst (.agg out))) : wpTake P ops T K (o :: rest) a := by
  refine wpTake_cons (v := .agg out) (.inl ⟨hgd, fun w1 hw => ?_⟩) h
  unfold Oper.quietAt execOp
  simp only [ho, hx, Instr.loadAt, Instr.sureAddr, Sem.run_bind, Sem.run_pure, Result.andThen_ok, run_part (hh w1 hw)]
  exact ⟨rfl, rfl⟩
theorem tcel (hh : ∀ u, T u → Has u g t cs) (hgd : Region.wanted o (yielded ops a.tmps) = true) (ho : o.op = .load ty p) (hx : a.eval p = .pointer (some ⟨g, off, none⟩)) [hA : Sca P ty] [hP : Cel cs off v] (h : wpTake P ops T K rest (a.put o.dst v)) : wpTake P ops T K (o :: rest) a := by
  refine wpTake_cons (v := v) (.inl ⟨hgd, fun w1 hw => ?_⟩) h
  unfold Oper.quietAt execOp
  simp only [ho, hx, Instr.loadAt, Instr.sureAddr, Sem.run_bind, Sem.run_pure, Result.andThen_ok, run_cel (hh w1 hw)]
  exact ⟨rfl, rfl⟩
theorem Kn.tp {gb tb : Nat} {cb : Array Value} (H : Kn S w l x) (i j : Nat) (hi : l[i]? = some ⟨g, t, cs⟩) (hj : l[j]? = some ⟨gb, tb, cb⟩) (hgd : Region.wanted o (yielded ops a.tmps) = true) (ho : o.op = .load ty p) (hx : a.eval p = .pointer (some ⟨g, off, none⟩)) (hij : (i == j) = false) [hA : Agg P ty n] [hP : Prt cs off n out]
    (h : wpTake P ops (But gb x) K rest (a.put o.dst (.agg out))) : wpTake P ops (But gb x) K (o :: rest) a := tpart (fun u hu => hu.has (H.at i hi) (H.ne hj hi (by simpa using hij))) hgd ho hx h
theorem Kn.tc {gb tb : Nat} {cb : Array Value} (H : Kn S w l x) (i j : Nat) (hi : l[i]? = some ⟨g, t, cs⟩) (hj : l[j]? = some ⟨gb, tb, cb⟩) (hgd : Region.wanted o (yielded ops a.tmps) = true) (ho : o.op = .load ty p) (hx : a.eval p = .pointer (some ⟨g, off, none⟩)) (hij : (i == j) = false) [hA : Sca P ty] [hP : Cel cs off v]
    (h : wpTake P ops (But gb x) K rest (a.put o.dst v)) : wpTake P ops (But gb x) K (o :: rest) a := tcel (fun u hu => hu.has (H.at i hi) (H.ne hj hi (by simpa using hij))) hgd ho hx h
theorem Kn.tpq (H : Kn S w l x) (i : Nat) (hi : l[i]? = some ⟨g, t, cs⟩) (hgd : Region.wanted o (yielded ops a.tmps) = true) (ho : o.op = .load ty p) (hx : a.eval p = .pointer (some ⟨g, off, none⟩)) [hA : Agg P ty n] [hP : Prt cs off n out]
    (h : wpTake P ops (But x.heap.size x) K rest (a.put o.dst (.agg out))) : wpTake P ops (But x.heap.size x) K (o :: rest) a := tpart (fun u hu => hu.has (H.at i hi) (Nat.ne_of_lt (H.at i hi).lt)) hgd ho hx h
theorem Kn.tcq (H : Kn S w l x) (i : Nat) (hi : l[i]? = some ⟨g, t, cs⟩) (hgd : Region.wanted o (yielded ops a.tmps) = true) (ho : o.op = .load ty p) (hx : a.eval p = .pointer (some ⟨g, off, none⟩)) [hA : Sca P ty] [hP : Cel cs off v]
    (h : wpTake P ops (But x.heap.size x) K rest (a.put o.dst v)) : wpTake P ops (But x.heap.size x) K (o :: rest) a := tcel (fun u hu => hu.has (H.at i hi) (Nat.ne_of_lt (H.at i hi).lt)) hgd ho hx h
end
section
variable {P : Program} {ops : Array Oper} {rest : List Oper} {o : Oper} {a : Act} {Q : Exit → Act → World → Prop} {K : Act → Prop} {x : World} {t : TypeId} {cells : Array Value} {T : World → Prop}
theorem obuild {parts : Array (Nat × Operand)} (hgd : o.guard = none) (ho : o.op = .build t parts) (hf : P.built t (parts.toList.map fun p => (p.1, a.eval p.2)) = some cells) (h : wpList P ops Q rest (a.put o.dst (.agg cells)) x) : wpList P ops Q (o :: rest) a x := by
  refine wpList_plain hgd fun K hK => ?_
  unfold Oper.wp execOp
  have hr : (Instr.build t (parts.map fun (i, x) => (i, a.eval x))).run P x = .ok (.agg cells) x := run_build x t _ cells (by rw [← hf, Array.toList_map])
  simp only [ho, Sem.run_bind, hr, Result.andThen_ok]
  exact hK _ _ h
theorem oeql {n : Nat} {r : TypeId} {p q : Operand} {xs ys : List Int} {b : Bool} (hgd : o.guard = none) (ho : o.op = .binOp .eql t p q r) (hp : a.eval p = .agg (vals .u64 xs)) (hq : a.eval q = .agg (vals .u64 ys)) (hb : decide (xs = ys) = b) [hE : Eqs P t n] [hx : Cz n (vals .u64 xs)] [hy : Cz n (vals .u64 ys)]
    (k : wpList P ops Q rest (a.put o.dst (.bool b)) x) : wpList P ops Q (o :: rest) a x := by
  have h := hE.ok x xs ys (by have := hx.sz; rwa [vals_size] at this) (by have := hy.sz; rwa [vals_size] at this)
  rw [hb] at h
  have hg := hE.gd
  refine wpList_plain hgd fun K hK => ?_
  have hk := hK _ _ k
  unfold Oper.wp
  simp only [execOp, ho, hp, hq]
  go_simp <;> exact hk
theorem oeqt {n : Nat} {r : TypeId} {p q : Operand} {xs ys : List Int} (hgd : o.guard = none) (ho : o.op = .binOp .eql t p q r) (hp : a.eval p = .agg (vals .u64 xs)) (hq : a.eval q = .agg (vals .u64 ys)) (hb : xs = ys) [hE : Eqs P t n] [hx : Cz n (vals .u64 xs)] [hy : Cz n (vals .u64 ys)]
    (k : wpList P ops Q rest (a.put o.dst (.bool true)) x) : wpList P ops Q (o :: rest) a x := oeql hgd ho hp hq (decide_eq_true hb) k
theorem oeqf {n : Nat} {r : TypeId} {p q : Operand} {xs ys : List Int} (hgd : o.guard = none) (ho : o.op = .binOp .eql t p q r) (hp : a.eval p = .agg (vals .u64 xs)) (hq : a.eval q = .agg (vals .u64 ys)) (hb : ¬ xs = ys) [hE : Eqs P t n] [hx : Cz n (vals .u64 xs)] [hy : Cz n (vals .u64 ys)]
    (k : wpList P ops Q rest (a.put o.dst (.bool false)) x) : wpList P ops Q (o :: rest) a x := oeql hgd ho hp hq (decide_eq_false hb) k
/-- '==' on numbers, whatever it tells. -/
theorem teqd {n : Nat} {r : TypeId} {p q : Operand} {xs ys : List Int} (hgd : Region.wanted o (yielded ops a.tmps) = true) (ho : o.op = .binOp .eql t p q r) (hp : a.eval p = .agg (vals .u64 xs)) (hq : a.eval q = .agg (vals .u64 ys)) [hE : Eqs P t n] [hx : Cz n (vals .u64 xs)] [hy : Cz n (vals .u64 ys)]
    (k : wpTake P ops T K rest (a.put o.dst (.bool (decide (xs = ys))))) : wpTake P ops T K (o :: rest) a :=
  take_eql hgd ho hp hq hE.ok hE.gd (by have := hx.sz; rwa [vals_size] at this) (by have := hy.sz; rwa [vals_size] at this) rfl k
end
section
variable {S : Nat} {w x : World} {l : List Blk} {n i j f : Nat} {P : Program} {ops : Array Oper} {md : Region.Mode} {o o' : Oper} {a : Act} {Q : Exit → Act → World → Prop} {ty gb tb : Nat} {cb cs : Array Value} {p q : Operand} {L : Array Bool} {v : Value}
/-- A drawn region's end: a store into block j, then an operation that yields one value whatever the world. -/
theorem Kn.tsta (H : Kn S w l x) (i j : Nat) (hj : l[j]? = some ⟨gb, tb, cb⟩) (hi : ops[i]? = some o) (hr : Region.ready md ops L = [i]) (hgd : o.guard = none) (ho : o.op = .store ty p q) (hd : o.dst = none) (hx : a.eval p = .pointer (some ⟨gb, 0, none⟩)) (hy : a.eval q = .agg cs)
    (hi' : ops[i + 1]? = some o') (hs : Region.noSelect ops = true) (hf : Region.free md ops (L.setIfInBounds i true) (i + 1) = true) (hr' : (Region.ready md ops (L.setIfInBounds i true)).contains (i + 1) = true) (he : Region.ready md ops ((L.setIfInBounds i true).setIfInBounds (i + 1) true) = [])
    (hQ : ∀ c a d v w, Q (.panic c) (Act.put a d v) w → Q (.panic c) a w) (hw : Region.wanted o' (yielded ops a.tmps) = true) (hv : ∀ u, (execOp a.eval o').run P u = .ok (.value v) u) [hA : Agg P ty n] [hC : Cz n cs] [hB : Cz n cb]
    (h : ∀ y, Kn S w (l.set j ⟨gb, tb, cs⟩) y → Q .normal (a.put o'.dst v) y) : wpAnyU P md ops Q (But gb x) 2 L a x.drew := by
  refine wpAnyU_run hi hr (fun w1 hq => ?_)
  have hg1 : Has w1 gb tb cb := (H.mem hj).drew.keep hq
  have hb1 : But gb x w1 := (but_drew gb x).then hq
  refine wpList_store_rowTo hgd ty p q ho hd gb cs hx hy tb cb hg1.eq (by rw [hC.sz]; exact hA.inf) (by rw [hB.sz, hC.sz]) hC.one ?_
  have hb2 : But gb x (w1.setRow gb cs) := ⟨hb1.os, hb1.tape, hb1.output, by simpa using hb1.size, fun k hk hne => (setRow_other w1 gb k cs hne).trans (hb1.block k hk hne)⟩
  refine ⟨hb2, wpAnyU_take (fun _ _ h hb => h.then hb) hi' hs hf hr' hQ hb2 (Steady.of_yields (.inl ⟨hw, hv⟩)) (wpAnyU_end he fun w2 h2 => ?_)⟩
  exact h _ ((H.set hj (hg1.row cs) hb2).keep h2)
end
theorem res_row_tmp {P : Program} {fn : Func} {p u : Tmp} {ty : TypeId} (h : fn.results = #[.cell p ty, .tmp u]) (tmps : Array Value) (w : World) (g : Nat) (t : TypeId) (cs : Array Value) (fr : Nat × Nat) (d : TypeDesc) (v : Value)
    (hp : tmps.getD p undef = .pointer (some ⟨g, 0, none⟩)) (hv : tmps.getD u undef = v) (hg : w.heap[g]? = some (.cells cs t fr))
    (hu : P.underlying ty = some d) (hd : (match d with | .struct _ | .array _ _ => true | _ => false) = true) (hi : (P.info? ty).map (·.size) = some cs.size) :
    (results fn tmps).run P w = .ok (.tuple #[.agg cs, v]) w := by
  have hp' : tmps[p]?.getD undef = .pointer (some ⟨g, 0, none⟩) := by simpa using hp
  have hv' : tmps[u]?.getD undef = v := by simpa using hv
  simp [results, h, hp', hv', asAddr, run_loadVar_row w g t ty cs fr d hg hu hd hi]
/-- The answers are what a block holds, and one value more. -/
theorem Kn.rettc {S : Nat} {w x : World} {l : List Blk} {n : Nat} {P : Program} {a : Act} {ty t g : Nat} {cs V : Array Value} {fn : Func} {pp s2 : Tmp} {v : Value} (H : Kn S w l x) (i : Nat) (hi : l[i]? = some ⟨g, t, cs⟩) (hres : fn.results = #[.cell pp ty, .tmp s2]) (hp : a.tmps.getD pp undef = .pointer (some ⟨g, 0, none⟩)) (hs : a.tmps.getD s2 undef = v) (hd : a.defers = []) [hA : Agg P ty n] [hC : Cz n cs] (hv : cs = V) :
    bodyPost P fn (fun e y => e = .returned (.tuple #[.agg V, v]) ∧ RowKit.Below S w y) .ret a x := by
  subst hv
  obtain ⟨d, hu, hdd⟩ := hA.und
  exact bodyPost_ret (res_row_tmp hres _ _ g t cs (0, 0) d v hp hs (H.at i hi).eq hu (by cases d <;> first | rfl | (simp [aggD] at hdd)) (by rw [hC.sz]; exact hA.inf)) hd ⟨rfl, H.bel⟩
theorem Kn.rett {S : Nat} {w x : World} {l : List Blk} {n : Nat} {P : Program} {a : Act} {ty t g : Nat} {xs V : List Int} {fn : Func} {pp s2 : Tmp} {v : Value} (H : Kn S w l x) (i : Nat) (hi : l[i]? = some ⟨g, t, vals .u64 xs⟩) (hres : fn.results = #[.cell pp ty, .tmp s2]) (hp : a.tmps.getD pp undef = .pointer (some ⟨g, 0, none⟩)) (hs : a.tmps.getD s2 undef = v) (hd : a.defers = []) [hA : Agg P ty n] [hC : Cz n (vals .u64 xs)] (hv : xs = V) :
    bodyPost P fn (fun e y => e = .returned (.tuple #[.agg (vals .u64 V), v]) ∧ RowKit.Below S w y) .ret a x := H.rettc i hi hres hp hs hd (by rw [hv])
/-- How a structure is written out of its parts, whatever their kinds. -/
def BuiltC (P : Program) (t : TypeId) (pl : List (Nat × Nat)) (z : Array Value) : Prop := ∀ parts, P.built t parts = Instr.fill (pl.toArray[·]?) z parts
theorem fold_mid : ∀ (vs : List Value) (A B C : Array Value) (j : Nat), B.size = vs.length →
    ((vs.zipIdx j).foldl (fun (a : Array Value) (x : Value × Nat) => a.setIfInBounds (A.size - j + x.2) x.1) (A ++ B ++ C)) = A ++ vs.toArray ++ C ∨ A.size < j
  | [], A, B, C, j, h => by
    left
    obtain rfl : B = #[] := Array.eq_empty_of_size_eq_zero h
    rfl
  | v :: vs, A, B, C, j, h => by
    by_cases hj : A.size < j
    · exact .inr hj
    left
    obtain ⟨b, B', rfl⟩ : ∃ b B', B = #[b] ++ B' := by
      rcases B with ⟨l⟩
      cases l with
      | nil => simp at h
      | cons b l => exact ⟨b, l.toArray, by simp⟩
    have hs : B'.size = vs.length := by
      rw [Array.size_append] at h
      simp at h
      omega
    have ih := fold_mid vs (A ++ #[v]) B' C (j + 1) hs
    rw [List.zipIdx_cons, List.foldl_cons]
    have e1 : (A ++ (#[b] ++ B') ++ C).setIfInBounds (A.size - j + j) v = (A ++ #[v]) ++ B' ++ C := by
      rw [show A.size - j + j = A.size by omega]
      apply Array.ext'
      simp
    simp only []
    rw [e1]
    have e2 : (A ++ #[v]).size - (j + 1) = A.size - j := by simp
    rw [e2] at ih
    rcases ih with ih | ih
    · rw [ih]
      apply Array.ext'
      simp
    · simp at ih
      omega
theorem fill_mid {pl : Nat → Option (Nat × Nat)} {i : Nat} {A B C vs : Array Value} {v : Value} {rest : List (Nat × Value)} (hp : pl i = some (A.size, B.size)) (hv : v.cells = vs) (hs : vs.size = B.size) :
    Instr.fill pl (A ++ B ++ C) ((i, v) :: rest) = Instr.fill pl (A ++ vs ++ C) rest := by
  subst hv
  rw [Instr.fill, hp]
  simp only []
  rw [if_neg (by rw [hs]; simp [Array.size_append])]
  have h := fold_mid v.cells.toList A B C 0 (by simpa using hs.symm)
  rcases h with h | h
  · rw [Nat.sub_zero] at h
    rw [← Array.foldl_toList, Array.toList_zipIdx, h]
  · omega
end Go.Proofs.YtpnpiiocpjbffaaDoor.Reg

