/-
  Own text. The contracts of layer 4's reference: FromBytes.
-/
import Derived.Test.YtmohopjblhgdiaaDoorFpRef9
namespace Go.Proofs.YtmohopjblhgdiaaDoor.Fp
set_option linter.unusedVariables false
open Go Go.RowKit Go.Proofs.YtmohopjblhgdiaaDoor.Reg Go.Proofs.YtmohopjblhgdiaaDoor.Base Go.Proofs.YtmohopjblhgdiaaDoor.Limb Go.Proofs.YtmohopjblhgdiaaDoor.Bits

theorem results_row_tmp {P : Program} {fn : Func} {p u : Tmp} {ty : TypeId} (h : fn.results = #[.cell p ty, .tmp u]) (tmps : Array Value) (w : World) (g : Nat) (t : TypeId) (cs : Array Value) (fr : Nat × Nat) (d : TypeDesc) (v : Value)
    (hp : tmps.getD p undef = .pointer (some ⟨g, 0, none⟩)) (hv : tmps.getD u undef = v) (hg : w.heap[g]? = some (.cells cs t fr))
    (hu : P.underlying ty = some d) (hd : (match d with | .struct _ | .array _ _ => true | _ => false) = true) (hi : (P.info? ty).map (·.size) = some cs.size) :
    (results fn tmps).run P w = .ok (.tuple #[.agg cs, v]) w := by
  rw [results_cell_tmp h, hp, hv]
  simp [asAddr, run_loadVar_row w g t ty cs fr d hg hu hd hi]
end Go.Proofs.YtmohopjblhgdiaaDoor.Fp
