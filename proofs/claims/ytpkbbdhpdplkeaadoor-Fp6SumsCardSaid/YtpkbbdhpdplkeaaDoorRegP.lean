/-
  Own text. Blocks whose cells are of more than one kind: parts put side by side; loads of a part, of one cell; structures written out of parts.
-/
import Derived.Test.YtpkbbdhpdplkeaaDoorMRegT
import Derived.Deep.MidRow
namespace Go.Proofs.YtpkbbdhpdplkeaaDoor.Reg
set_option linter.unusedVariables false
set_option linter.unusedSectionVars false
open Go
/-- Of these cells, those from off on, n of them. -/
class Prt (cs : Array Value) (off n : Nat) (out : outParam (Array Value)) : Prop where
  eq : cs.extract off (off + n) = out
  sz : out.size = n
/-- One cell. -/
class Cel (cs : Array Value) (off : Nat) (v : outParam Value) : Prop where
  eq : cs[off]? = some v
section
variable {A B : Array Value} {m n off : Nat} {out : Array Value} {v : Value}
theorem cz_app (a : Cz m A) (b : Cz n B) : Cz (m + n) (A ++ B) := ⟨by rw [Array.size_append, a.sz, b.sz], by rw [Array.all_append, a.one, b.one]; rfl⟩
instance cz_bool {b : Bool} : Cz 1 #[.bool b] := ⟨rfl, by simp [Value.oneCell']⟩
instance cz_int {k : IntKind} {z : Int} : Cz 1 #[.int k z] := ⟨rfl, by simp [Value.oneCell']⟩
instance part_all [a : Cz n A] : Prt A 0 n A := ⟨by rw [Nat.zero_add, ← a.sz, Array.extract_size], a.sz⟩
theorem part_left [a : Prt A off n out] : Prt (A ++ B) off n out := ⟨by
  have h := a.sz
  rw [← a.eq, Array.size_extract] at h
  rw [Array.extract_append]
  by_cases hn : n = 0
  · subst hn
    have e := a.eq
    rw [Nat.add_zero] at e ⊢
    rw [e, Array.extract_empty_of_stop_le_start (Nat.le_refl _), Array.append_empty]
  · rw [a.eq, Array.extract_empty_of_stop_le_start (by omega), Array.append_empty], a.sz⟩
theorem part_right [a : Cz m A] [b : Cz n B] : Prt (A ++ B) m n B := ⟨by
  rw [Array.extract_append, ← a.sz, Array.extract_empty_of_size_le_start (Nat.le_refl _), Array.empty_append, Nat.sub_self, Nat.add_sub_cancel_left, ← b.sz, Array.extract_size], b.sz⟩
theorem cel_right [a : Cz m A] : Cel (A ++ #[v]) m v := ⟨by rw [← a.sz, Array.getElem?_append_right (Nat.le_refl _), Nat.sub_self]; rfl⟩
end
/-- A type of one cell. -/
class Sca (P : Program) (t : TypeId) : Prop where
  und : ∃ d, P.underlying t = some d ∧ aggD d = false
section
variable {S : Nat} {w x y : World} {l : List Blk} {n off : Nat} {P : Program} {ops : Array Oper} {rest : List Oper} {o : Oper} {a : Act} {Q : Exit → Act → World → Prop} {K : Act → Prop} {ty t g : Nat} {p : Operand} {cs out : Array Value} {v : Value} {T : World → Prop}
theorem run_part (hh : Has x g t cs) [hA : Agg P ty n] [hP : Prt cs off n out] : (loadVar ty ⟨g, off, none⟩).run P x = .ok (.agg out) x := by
  obtain ⟨d, hu, hd⟩ := hA.und
  have h := run_loadVar_mid x g off ty out.toList d (fun j v hv => by
    rw [hh.cell]
    have he : out.toList[j]? = out[j]? := Array.getElem?_toList ..
    rw [he, ← hP.eq, Array.getElem?_extract] at hv
    split at hv
    · exact hv
    · cases hv) hu (by cases d <;> first | rfl | (simp [aggD] at hd)) (by rw [Array.length_toList, hP.sz]; exact hA.inf)
  simpa using h
theorem run_cel (hh : Has x g t cs) [hA : Sca P ty] [hP : Cel cs off v] : (loadVar ty ⟨g, off, none⟩).run P x = .ok v x := by
  obtain ⟨d, hu, hd⟩ := hA.und
  have hagg : (isAgg ty).run P x = .ok false x := by
    unfold isAgg
    rw [Sem.run_bind, run_underlying hu x]
    cases d <;> first | rfl | (simp [aggD] at hd)
  have hc := hh.cell off
  rw [hP.eq] at hc
  simp [loadVar, Sem.run_bind, hagg, hc]
theorem opart (hh : Has x g t cs) (hgd : o.guard = none) (ho : o.op = .load ty p) (hx : a.eval p = .pointer (some ⟨g, off, none⟩)) [hA : Agg P ty n] [hP : Prt cs off n out] (h : wpList P ops Q rest (a.put o.dst (.agg out)) x) : wpList P ops Q (o :: rest) a x := by
  refine wpList_plain hgd fun K hK => ?_
  unfold Oper.wp execOp
  simp only [ho, hx, Instr.loadAt, Instr.sureAddr, Sem.run_bind, Sem.run_pure, Result.andThen_ok, run_part hh]
  exact hK _ _ h
theorem ocel (hh : Has x g t cs) (hgd : o.guard = none) (ho : o.op = .load ty p) (hx : a.eval p = .pointer (some ⟨g, off, none⟩)) [hA : Sca P ty] [hP : Cel cs off v] (h : wpList P ops Q rest (a.put o.dst v) x) : wpList P ops Q (o :: rest) a x := by
  refine wpList_plain hgd fun K hK => ?_
  unfold Oper.wp execOp
  simp only [ho, hx, Instr.loadAt, Instr.sureAddr, Sem.run_bind, Sem.run_pure, Result.andThen_ok, run_cel hh]
  exact hK _ _ h
theorem Kn.lp (H : Kn S w l x) (i : Nat) (hi : l[i]? = some ⟨g, t, cs⟩) (hgd : o.guard = none) (ho : o.op = .load ty p) (hx : a.eval p = .pointer (some ⟨g, off, none⟩)) [hA : Agg P ty n] [hP : Prt cs off n out] (h : wpList P ops Q rest (a.put o.dst (.agg out)) x) : wpList P ops Q (o :: rest) a x := opart (H.at i hi) hgd ho hx h
theorem Kn.lc (H : Kn S w l x) (i : Nat) (hi : l[i]? = some ⟨g, t, cs⟩) (hgd : o.guard = none) (ho : o.op = .load ty p) (hx : a.eval p = .pointer (some ⟨g, off, none⟩)) [hA : Sca P ty] [hP : Cel cs off v] (h : wpList P ops Q rest (a.put o.dst v) x) : wpList P ops Q (o :: rest) a x := ocel (H.at i hi) hgd ho hx h
theorem tpart (hh : ∀ u, T u → Has u g t cs) (hgd : Region.wanted o (yielded ops a.tmps) = true) (ho : o.op = .load ty p) (hx : a.eval p = .pointer (some ⟨g, off, none⟩)) [hA : Agg P ty n] [hP : Prt cs off n out] (h : wpTake P ops T K rest (a.put o.dst (.agg out))) : wpTake P ops T K (o :: rest) a := by
  refine wpTake_cons (v := .agg out) (.inl ⟨hgd, fun w1 hw => ?_⟩) h
  unfold Oper.quietAt execOp
  simp only [ho, hx, Instr.loadAt, Instr.sureAddr, Sem.run_bind, Sem.run_pure, Result.andThen_ok, run_part (hh w1 hw)]
  exact ⟨rfl, rfl⟩
theorem tcel (hh : ∀ u, T u → Has u g t cs) (hgd : Region.wanted o (yielded ops a.tmps) = true) (ho : o.op = .load ty p) (hx : a.eval p = .pointer (some ⟨g, off, none⟩)) [hA : Sca P ty] [hP : Cel cs off v] (h : wpTake P ops T K rest (a.put o.dst v)) : wpTake P ops T K (o :: rest) a := by
  refine wpTake_cons (v := v) (.inl ⟨hgd, fun w1 hw => ?_⟩) h
  unfold Oper.quietAt execOp
  simp only [ho, hx, Instr.loadAt, Instr.sureAddr, Sem.run_bind, Sem.run_pure, Result.andThen_ok, run_cel (hh w1 hw)]
  exact ⟨rfl, rfl⟩
theorem Kn.tp {gb tb : Nat} {cb : Array Value} (H : Kn S w l x) (i j : Nat) (hi : l[i]? = some ⟨g, t, cs⟩) (hj : l[j]? = some ⟨gb, tb, cb⟩) (hgd : Region.wanted o (yielded ops a.tmps) = true) (ho : o.op = .load ty p) (hx : a.eval p = .pointer (some ⟨g, off, none⟩)) (hij : (i == j) = false) [hA : Agg P ty n] [hP : Prt cs off n out]
    (h : wpTake P ops (But gb x) K rest (a.put o.dst (.agg out))) : wpTake P ops (But gb x) K (o :: rest) a := tpart (fun u hu => hu.has (H.at i hi) (H.ne hj hi (by simpa using hij))) hgd ho hx h
theorem Kn.tc {gb tb : Nat} {cb : Array Value} (H : Kn S w l x) (i j : Nat) (hi : l[i]? = some ⟨g, t, cs⟩) (hj : l[j]? = some ⟨gb, tb, cb⟩) (hgd : Region.wanted o (yielded ops a.tmps) = true) (ho : o.op = .load ty p) (hx : a.eval p = .pointer (some ⟨g, off, none⟩)) (hij : (i == j) = false) [hA : Sca P ty] [hP : Cel cs off v]
    (h : wpTake P ops (But gb x) K rest (a.put o.dst v)) : wpTake P ops (But gb x) K (o :: rest) a := tcel (fun u hu => hu.has (H.at i hi) (H.ne hj hi (by simpa using hij))) hgd ho hx h
theorem Kn.tpq (H : Kn S w l x) (i : Nat) (hi : l[i]? = some ⟨g, t, cs⟩) (hgd : Region.wanted o (yielded ops a.tmps) = true) (ho : o.op = .load ty p) (hx : a.eval p = .pointer (some ⟨g, off, none⟩)) [hA : Agg P ty n] [hP : Prt cs off n out]
    (h : wpTake P ops (But x.heap.size x) K rest (a.put o.dst (.agg out))) : wpTake P ops (But x.heap.size x) K (o :: rest) a := tpart (fun u hu => hu.has (H.at i hi) (Nat.ne_of_lt (H.at i hi).lt)) hgd ho hx h
theorem Kn.tcq (H : Kn S w l x) (i : Nat) (hi : l[i]? = some ⟨g, t, cs⟩) (hgd : Region.wanted o (yielded ops a.tmps) = true) (ho : o.op = .load ty p) (hx : a.eval p = .pointer (some ⟨g, off, none⟩)) [hA : Sca P ty] [hP : Cel cs off v]
    (h : wpTake P ops (But x.heap.size x) K rest (a.put o.dst v)) : wpTake P ops (But x.heap.size x) K (o :: rest) a := tcel (fun u hu => hu.has (H.at i hi) (Nat.ne_of_lt (H.at i hi).lt)) hgd ho hx h
end
section
variable {P : Program} {ops : Array Oper} {rest : List Oper} {o : Oper} {a : Act} {Q : Exit → Act → World → Prop} {K : Act → Prop} {x : World} {t : TypeId} {cells : Array Value} {T : World → Prop}
theorem obuild {parts : Array (Nat × Operand)} (hgd : o.guard = none) (ho : o.op = .build t parts) (hf : P.built t (parts.toList.map fun p => (p.1, a.eval p.2)) = some cells) (h : wpList P ops Q rest (a.put o.dst (.agg cells)) x) : wpList P ops Q (o :: rest) a x := by
  refine wpList_plain hgd fun K hK => ?_
  unfold Oper.wp execOp
  have hr : (Instr.build t (parts.map fun (i, x) => (i, a.eval x))).run P x = .ok (.agg cells) x := run_build x t _ cells (by rw [← hf, Array.toList_map])
  simp only [ho, Sem.run_bind, hr, Result.andThen_ok]
  exact hK _ _ h
theorem oeql {n : Nat} {r : TypeId} {p q : Operand} {xs ys : List Int} {b : Bool} (hgd : o.guard = none) (ho : o.op = .binOp .eql t p q r) (hp : a.eval p = .agg (vals .u64 xs)) (hq : a.eval q = .agg (vals .u64 ys)) (hb : decide (xs = ys) = b) [hE : Eqs P t n] [hx : Cz n (vals .u64 xs)] [hy : Cz n (vals .u64 ys)]
    (k : wpList P ops Q rest (a.put o.dst (.bool b)) x) : wpList P ops Q (o :: rest) a x := by
  have h := hE.ok x xs ys (by have := hx.sz; rwa [vals_size] at this) (by have := hy.sz; rwa [vals_size] at this)
  rw [hb] at h
  have hg := hE.gd
  refine wpList_plain hgd fun K hK => ?_
  have hk := hK _ _ k
  unfold Oper.wp
  simp only [execOp, ho, hp, hq]
  go_simp <;> exact hk
theorem oeqt {n : Nat} {r : TypeId} {p q : Operand} {xs ys : List Int} (hgd : o.guard = none) (ho : o.op = .binOp .eql t p q r) (hp : a.eval p = .agg (vals .u64 xs)) (hq : a.eval q = .agg (vals .u64 ys)) (hb : xs = ys) [hE : Eqs P t n] [hx : Cz n (vals .u64 xs)] [hy : Cz n (vals .u64 ys)]
    (k : wpList P ops Q rest (a.put o.dst (.bool true)) x) : wpList P ops Q (o :: rest) a x := oeql hgd ho hp hq (decide_eq_true hb) k
theorem oeqf {n : Nat} {r : TypeId} {p q : Operand} {xs ys : List Int} (hgd : o.guard = none) (ho : o.op = .binOp .eql t p q r) (hp : a.eval p = .agg (vals .u64 xs)) (hq : a.eval q = .agg (vals .u64 ys)) (hb : ¬ xs = ys) [hE : Eqs P t n] [hx : Cz n (vals .u64 xs)] [hy : Cz n (vals .u64 ys)]
    (k : wpList P ops Q rest (a.put o.dst (.bool false)) x) : wpList P ops Q (o :: rest) a x := oeql hgd ho hp hq (decide_eq_false hb) k
/-- '==' on numbers, whatever it tells. -/
theorem teqd {n : Nat} {r : TypeId} {p q : Operand} {xs ys : List Int} (hgd : Region.wanted o (yielded ops a.tmps) = true) (ho : o.op = .binOp .eql t p q r) (hp : a.eval p = .agg (vals .u64 xs)) (hq : a.eval q = .agg (vals .u64 ys)) [hE : Eqs P t n] [hx : Cz n (vals .u64 xs)] [hy : Cz n (vals .u64 ys)]
    (k : wpTake P ops T K rest (a.put o.dst (.bool (decide (xs = ys))))) : wpTake P ops T K (o :: rest) a :=
  take_eql hgd ho hp hq hE.ok hE.gd (by have := hx.sz; rwa [vals_size] at this) (by have := hy.sz; rwa [vals_size] at this) rfl k
end
section
variable {S : Nat} {w x : World} {l : List Blk} {n i j f : Nat} {P : Program} {ops : Array Oper} {md : Region.Mode} {o o' : Oper} {a : Act} {Q : Exit → Act → World → Prop} {ty gb tb : Nat} {cb cs : Array Value} {p q : Operand} {L : Array Bool} {v : Value}
/-- A drawn region's end: a store into block j, then an operation that yields one value whatever the world. -/
theorem Kn.tsta (H : Kn S w l x) (i j : Nat) (hj : l[j]? = some ⟨gb, tb, cb⟩) (hi : ops[i]? = some o) (hr : Region.ready md ops L = [i]) (hgd : o.guard = none) (ho : o.op = .store ty p q) (hd : o.dst = none) (hx : a.eval p = .pointer (some ⟨gb, 0, none⟩)) (hy : a.eval q = .agg cs)
    (hi' : ops[i + 1]? = some o') (hs : Region.noSelect ops = true) (hf : Region.free md ops (L.setIfInBounds i true) (i + 1) = true) (hr' : (Region.ready md ops (L.setIfInBounds i true)).contains (i + 1) = true) (he : Region.ready md ops ((L.setIfInBounds i true).setIfInBounds (i + 1) true) = [])
    (hQ : ∀ c a d v w, Q (.panic c) (Act.put a d v) w → Q (.panic c) a w) (hw : Region.wanted o' (yielded ops a.tmps) = true) (hv : ∀ u, (execOp a.eval o').run P u = .ok (.value v) u) [hA : Agg P ty n] [hC : Cz n cs] [hB : Cz n cb]
    (h : ∀ y, Kn S w (l.set j ⟨gb, tb, cs⟩) y → Q .normal (a.put o'.dst v) y) : wpAnyU P md ops Q (But gb x) 2 L a x.drew := by
  refine wpAnyU_run hi hr (fun w1 hq => ?_)
  have hg1 : Has w1 gb tb cb := (H.mem hj).drew.keep hq
  have hb1 : But gb x w1 := (but_drew gb x).then hq
  refine wpList_store_rowTo hgd ty p q ho hd gb cs hx hy tb cb hg1.eq (by rw [hC.sz]; exact hA.inf) (by rw [hB.sz, hC.sz]) hC.one ?_
  have hb2 : But gb x (w1.setRow gb cs) := ⟨hb1.os, hb1.tape, hb1.output, by simpa using hb1.size, fun k hk hne => (setRow_other w1 gb k cs hne).trans (hb1.block k hk hne)⟩
  refine ⟨hb2, wpAnyU_take (fun _ _ h hb => h.then hb) hi' hs hf hr' hQ hb2 (Steady.of_yields (.inl ⟨hw, hv⟩)) (wpAnyU_end he fun w2 h2 => ?_)⟩
  exact h _ ((H.set hj (hg1.row cs) hb2).keep h2)
end
theorem res_row_tmp {P : Program} {fn : Func} {p u : Tmp} {ty : TypeId} (h : fn.results = #[.cell p ty, .tmp u]) (tmps : Array Value) (w : World) (g : Nat) (t : TypeId) (cs : Array Value) (fr : Nat × Nat) (d : TypeDesc) (v : Value)
    (hp : tmps.getD p undef = .pointer (some ⟨g, 0, none⟩)) (hv : tmps.getD u undef = v) (hg : w.heap[g]? = some (.cells cs t fr))
    (hu : P.underlying ty = some d) (hd : (match d with | .struct _ | .array _ _ => true | _ => false) = true) (hi : (P.info? ty).map (·.size) = some cs.size) :
    (results fn tmps).run P w = .ok (.tuple #[.agg cs, v]) w := by
  have hp' : tmps[p]?.getD undef = .pointer (some ⟨g, 0, none⟩) := by simpa using hp
  have hv' : tmps[u]?.getD undef = v := by simpa using hv
  simp [results, h, hp', hv', asAddr, run_loadVar_row w g t ty cs fr d hg hu hd hi]
/-- The answers are what a block holds, and one value more. -/
theorem Kn.rettc {S : Nat} {w x : World} {l : List Blk} {n : Nat} {P : Program} {a : Act} {ty t g : Nat} {cs V : Array Value} {fn : Func} {pp s2 : Tmp} {v : Value} (H : Kn S w l x) (i : Nat) (hi : l[i]? = some ⟨g, t, cs⟩) (hres : fn.results = #[.cell pp ty, .tmp s2]) (hp : a.tmps.getD pp undef = .pointer (some ⟨g, 0, none⟩)) (hs : a.tmps.getD s2 undef = v) (hd : a.defers = []) [hA : Agg P ty n] [hC : Cz n cs] (hv : cs = V) :
    bodyPost P fn (fun e y => e = .returned (.tuple #[.agg V, v]) ∧ RowKit.Below S w y) .ret a x := by
  subst hv
  obtain ⟨d, hu, hdd⟩ := hA.und
  exact bodyPost_ret (res_row_tmp hres _ _ g t cs (0, 0) d v hp hs (H.at i hi).eq hu (by cases d <;> first | rfl | (simp [aggD] at hdd)) (by rw [hC.sz]; exact hA.inf)) hd ⟨rfl, H.bel⟩
theorem Kn.rett {S : Nat} {w x : World} {l : List Blk} {n : Nat} {P : Program} {a : Act} {ty t g : Nat} {xs V : List Int} {fn : Func} {pp s2 : Tmp} {v : Value} (H : Kn S w l x) (i : Nat) (hi : l[i]? = some ⟨g, t, vals .u64 xs⟩) (hres : fn.results = #[.cell pp ty, .tmp s2]) (hp : a.tmps.getD pp undef = .pointer (some ⟨g, 0, none⟩)) (hs : a.tmps.getD s2 undef = v) (hd : a.defers = []) [hA : Agg P ty n] [hC : Cz n (vals .u64 xs)] (hv : xs = V) :
    bodyPost P fn (fun e y => e = .returned (.tuple #[.agg (vals .u64 V), v]) ∧ RowKit.Below S w y) .ret a x := H.rettc i hi hres hp hs hd (by rw [hv])
/-- How a structure is written out of its parts, whatever their kinds. -/
def BuiltC (P : Program) (t : TypeId) (pl : List (Nat × Nat)) (z : Array Value) : Prop := ∀ parts, P.built t parts = Instr.fill (pl.toArray[·]?) z parts
theorem fold_mid : ∀ (vs : List Value) (A B C : Array Value) (j : Nat), B.size = vs.length →
    ((vs.zipIdx j).foldl (fun (a : Array Value) (x : Value × Nat) => a.setIfInBounds (A.size - j + x.2) x.1) (A ++ B ++ C)) = A ++ vs.toArray ++ C ∨ A.size < j
  | [], A, B, C, j, h => by
    left
    obtain rfl : B = #[] := Array.eq_empty_of_size_eq_zero h
    rfl
  | v :: vs, A, B, C, j, h => by
    by_cases hj : A.size < j
    · exact .inr hj
    left
    obtain ⟨b, B', rfl⟩ : ∃ b B', B = #[b] ++ B' := by
      rcases B with ⟨l⟩
      cases l with
      | nil => simp at h
      | cons b l => exact ⟨b, l.toArray, by simp⟩
    have hs : B'.size = vs.length := by
      rw [Array.size_append] at h
      simp at h
      omega
    have ih := fold_mid vs (A ++ #[v]) B' C (j + 1) hs
    rw [List.zipIdx_cons, List.foldl_cons]
    have e1 : (A ++ (#[b] ++ B') ++ C).setIfInBounds (A.size - j + j) v = (A ++ #[v]) ++ B' ++ C := by
      rw [show A.size - j + j = A.size by omega]
      apply Array.ext'
      simp
    simp only []
    rw [e1]
    have e2 : (A ++ #[v]).size - (j + 1) = A.size - j := by simp
    rw [e2] at ih
    rcases ih with ih | ih
    · rw [ih]
      apply Array.ext'
      simp
    · simp at ih
      omega
theorem fill_mid {pl : Nat → Option (Nat × Nat)} {i : Nat} {A B C vs : Array Value} {v : Value} {rest : List (Nat × Value)} (hp : pl i = some (A.size, B.size)) (hv : v.cells = vs) (hs : vs.size = B.size) :
    Instr.fill pl (A ++ B ++ C) ((i, v) :: rest) = Instr.fill pl (A ++ vs ++ C) rest := by
  subst hv
  rw [Instr.fill, hp]
  simp only []
  rw [if_neg (by rw [hs]; simp [Array.size_append])]
  have h := fold_mid v.cells.toList A B C 0 (by simpa using hs.symm)
  rcases h with h | h
  · rw [Nat.sub_zero] at h
    rw [← Array.foldl_toList, Array.toList_zipIdx, h]
  · omega
end Go.Proofs.YtpkbbdhpdplkeaaDoor.Reg
