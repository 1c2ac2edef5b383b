/-
  Own text. Law: a whole array stored into some cells of a block.
-/
import Derived.Test.YtpkbbdhpdplkeaaDoorRegG
namespace Go.Proofs.YtpkbbdhpdplkeaaDoor.Reg
open Go Go.Proofs.YtpkbbdhpdplkeaaDoor.Limb
/-- A whole array stored into some cells of a block; the world behind it is a variable. -/
theorem store_seg {P : Program} {w : World} {ops : Array Oper} {rest : List Oper} {o : Oper} {a : Act} {Q : Exit → Act → World → Prop} (hgd : o.guard = none) (ty : TypeId) (x y : Operand) (ho : o.op = .store ty x y)
    (hd : o.dst = none) (g off : Nat) (k : IntKind) (ys : List Int) (hx : a.eval x = .pointer (some ⟨g, off, none⟩)) (hy : a.eval y = .agg (vals k ys))
    (t : TypeId) (xs : List Int) (hg : Has w g t (vals k xs)) (hi : (P.info? ty).map (·.size) = some ys.length) (hfit : off + ys.length ≤ xs.length) (zs : List Int) (hz : xs.take off ++ (ys ++ xs.drop (off + ys.length)) = zs)
    (h : ∀ w', Has w' g t (vals k zs) → Only g w w' → wpList P ops Q rest a w') : wpList P ops Q (o :: rest) a w := by
  refine wpList_plain hgd fun K hK => ?_
  have hst := run_storeCells_at P g off t (ys.map (Value.int k)) 0 (vals k xs) w hg.eq (by rw [vals_size]; simp; omega) (fun u hu => by
    obtain ⟨z, _, rfl⟩ := List.mem_map.1 hu
    rfl)
  have hcells : ((vals k xs).toList.take (off + 0) ++ ys.map (Value.int k) ++ (vals k xs).toList.drop (off + 0 + (ys.map (Value.int k)).length)).toArray = vals k zs := by
    subst hz
    simp [vals, List.append_assoc]
  rw [hcells] at hst
  have hl : (vals k ys).toList = ys.map (Value.int k) := by simp [vals]
  cases hq : P.info? ty with
  | none => simp [hq] at hi
  | some inf =>
    have hs : inf.size = ys.length := by simpa [hq] using hi
    have hrun : (storeVar ty ⟨g, off, none⟩ (.agg (vals k ys))).run P w = .ok () (w.setRow g (vals k zs)) := by
      simp [storeVar, sizeOf, typeInfo, hq, Value.cells, hs, hst, hl, vals_size]
    unfold Oper.wp execOp
    simp only [ho, hx, hy, Instr.storeAt, Instr.sureAddr, Sem.run_bind, Sem.run_pure, Result.andThen_ok, hrun]
    refine hK _ _ ?_
    rw [hd]
    exact h _ (hg.row _) (only_row' g w _)
end Go.Proofs.YtpkbbdhpdplkeaaDoor.Reg
