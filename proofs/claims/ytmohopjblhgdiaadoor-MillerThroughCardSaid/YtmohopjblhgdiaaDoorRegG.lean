/-
  Own text. Laws: some cells of a block loaded; one cell stored; cells cleared.
-/
import Derived.Test.YtmohopjblhgdiaaDoorMReg
import Derived.Test.YtmohopjblhgdiaaDoorLimbOwnD
namespace Go.Proofs.YtmohopjblhgdiaaDoor.Reg
open Go Go.Proofs.YtmohopjblhgdiaaDoor.Limb
theorem only_row' (g : Nat) (w : World) (cs : Array Value) : Only g w (w.setRow g cs) :=
  ⟨rfl, rfl, rfl, by simp, fun k _ hne => setRow_other w g k cs hne⟩
/-- A whole array loaded out of a block. -/
theorem load_seg {P : Program} {w : World} {ops : Array Oper} {rest : List Oper} {o : Oper} {a : Act} {Q : Exit → Act → World → Prop} (hgd : o.guard = none) (ty : TypeId) (x : Operand) (ho : o.op = .load ty x) (g off n : Nat) (hx : a.eval x = .pointer (some ⟨g, off, none⟩)) (t : TypeId) (k : IntKind) (xs ys : List Int) (d : TypeDesc)
    (hg : Has w g t (vals k xs)) (hu : P.underlying ty = some d) (hd : (match d with | .struct _ | .array _ _ => true | _ => false) = true)
    (hi : (P.info? ty).map (·.size) = some n) (hy : ys = (xs.drop off).take n) (hoff : off + n ≤ xs.length) (h : wpList P ops Q rest (a.put o.dst (.agg (vals k ys))) w) : wpList P ops Q (o :: rest) a w := by
  refine wpList_plain hgd fun K hK => ?_
  unfold Oper.wp execOp
  simp only [ho, hx, Instr.loadAt, Instr.sureAddr, Sem.run_bind, Sem.run_pure, Result.andThen_ok, run_load_seg hg hu hd hi hy hoff]
  exact hK _ _ h
/-- One cell stored; the world behind it is a variable. -/
theorem store_val {P : Program} {w : World} {ops : Array Oper} {rest : List Oper} {o : Oper} {a : Act} {Q : Exit → Act → World → Prop} (hgd : o.guard = none) (ty : TypeId) (x y : Operand) (ho : o.op = .store ty x y)
    (hd : o.dst = none) (g i : Nat) (hx : a.eval x = .pointer (some ⟨g, i, none⟩)) (v : Value) (hy : a.eval y = v) (hv : v.cells = #[v]) (h1 : v.oneCell' = true) (hty : (P.info? ty).map (·.size) = some 1)
    (t : TypeId) (cs : Array Value) (hg : Has w g t cs) (hi : i < cs.size)
    (h : ∀ w', Has w' g t (cs.setIfInBounds i v) → Only g w w' → wpList P ops Q rest a w') : wpList P ops Q (o :: rest) a w := by
  refine wpList_plain hgd fun K hK => ?_
  have hst := run_storeCells_at P g i t [v] 0 cs w hg.eq (by simp; omega) (fun u hu => by
    obtain rfl : u = v := by simpa using hu
    exact h1)
  have hcells : (cs.toList.take (i + 0) ++ [v] ++ cs.toList.drop (i + 0 + [v].length)).toArray = cs.setIfInBounds i v := by
    apply Array.toList_inj.1
    rw [Array.toList_setIfInBounds, Nat.add_zero, List.set_eq_take_append_cons_drop, if_pos (by simpa using hi), List.append_assoc]
    rfl
  rw [hcells] at hst
  cases hq : P.info? ty with
  | none => simp [hq] at hty
  | some inf =>
    have hs : inf.size = 1 := by simpa [hq] using hty
    have hrun : (storeVar ty ⟨g, i, none⟩ v).run P w = .ok () (w.setRow g (cs.setIfInBounds i v)) := by
      simp [storeVar, sizeOf, typeInfo, hq, hv, hs, hst]
    unfold Oper.wp execOp
    simp only [ho, hx, hy, Instr.storeAt, Instr.sureAddr, Sem.run_bind, Sem.run_pure, Result.andThen_ok, hrun]
    refine hK _ _ ?_
    rw [hd]
    exact h _ (hg.row _) (only_row' g w _)
/-- The built-in clear on cells of a block. -/
theorem clear_abs {P : Program} {w : World} {ops : Array Oper} {rest : List Oper} {o : Oper} {a : Act} {Q : Exit → Act → World → Prop} (hgd : o.guard = none) (x : Operand) (tx : TypeId)
    (ho : o.op = .call { callee := .builtin .clear, args := #[x], argTypes := #[tx] }) (e : TypeId) (hu : P.underlying tx = some (.slice e)) (k : IntKind) (bytes : Nat) (he : IntElem P e k bytes)
    (g off n c : Nat) (hx : a.eval x = .slice (some ⟨g, off, none⟩) n c) (hn : 0 < n) (t : TypeId) (xs ys : List Int) (hg : Has w g t (vals k xs)) (hfit : off + n ≤ xs.length) (hys : xs.take off ++ (List.replicate n 0 ++ xs.drop (off + n)) = ys)
    (h : ∀ w', Has w' g t (vals k ys) → Only g w w' → wpList P ops Q rest (a.put o.dst (.tuple #[])) w') : wpList P ops Q (o :: rest) a w := by
  refine wpList_plain hgd fun K hK => ?_
  obtain ⟨i, hi, hz, hs, hby⟩ := he.get
  have hz0 : (Builtin.zeroCells (Value.int k 0).cells n).toList = List.replicate n (Value.int k 0) := by
    apply List.ext_getElem
    · simp [Builtin.zeroCells, Value.cells]
    · intro j h1 h2
      simp [Builtin.zeroCells, Value.cells, Nat.mod_one]
  have hst := run_storeCells_at P g off t (List.replicate n (Value.int k 0)) 0 (vals k xs) w hg.eq (by rw [vals_size]; simp; omega) (fun u hu => by
    obtain rfl := List.eq_of_mem_replicate hu
    rfl)
  have hcells : ((vals k xs).toList.take (off + 0) ++ List.replicate n (Value.int k 0) ++ (vals k xs).toList.drop (off + 0 + (List.replicate n (Value.int k 0)).length)).toArray = vals k ys := by
    subst hys
    simp [vals, List.append_assoc]
  rw [hcells] at hst
  have hrun : (Builtin.clear_ #[tx] o.type #[.slice (some ⟨g, off, none⟩) n c]).run P w = .ok (.tuple #[]) (w.setRow g (vals k ys)) := by
    obtain ⟨m, rfl⟩ : ∃ m, n = m + 1 := ⟨n - 1, by omega⟩
    simp [Builtin.clear_, run_underlying hu, zeroValue, typeInfo, hi, hz, hz0, hst]
  unfold Oper.wp execOp
  simp only [ho, resolve, invoke, builtin, Sem.run_bind, Sem.run_pure, Result.andThen_ok, List.map_toArray, List.map_cons, List.map_nil, hx, hrun]
  exact hK _ _ (h _ (hg.row _) (only_row' g w _))
end Go.Proofs.YtmohopjblhgdiaaDoor.Reg
