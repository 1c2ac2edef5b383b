/-
  Own text. '==' on numbers with u.
-/
import Derived.Test.YtpnpiiocpjbffaaDoorMRegT
import Derived.Test.YtpnpiiocpjbffaaDoorFp2Spec
namespace Go.Proofs.YtpnpiiocpjbffaaDoor.Fp2
set_option maxRecDepth 100000
open Go Go.RowKit Go.Proofs.YtpnpiiocpjbffaaDoor.Reg
theorem eqok6 : EqOK Tryd.prog 9999 24 6 := eqok_arr (d := 9997) Tryd.underlying24 Tryd.underlying22 (by kernel_rfl) (by kernel_rfl)
theorem eqok2 : EqOK Tryd.prog 10000 26 12 := eqok_two (n := 6) eqok6 Tryd.underlying24 rfl (by kernel_rfl) Tryd.underlying26 (by kernel_rfl) (by kernel_rfl)
theorem eq12 (l : List Int) (h : l.length = 12) (w : World) : (Op.equalIn 10000 26 (.agg (vals .u64 l)) (.agg (vals .u64 l))).run Tryd.prog w = .ok true w := by
  rw [eqok2 w l l h h, decide_eq_true rfl]
theorem neq12 {l m : List Int} (h : l.length = 12) (h' : m.length = 12) (hne : l ≠ m) (w : World) : (Op.equalIn 10000 26 (.agg (vals .u64 l)) (.agg (vals .u64 m))).run Tryd.prog w = .ok false w := by
  rw [eqok2 w l m h h', decide_eq_false hne]
theorem gd2 : Tryd.prog.eqGuardType Tryd.prog.depth 26 = false := by kernel_rfl
theorem build0 : Tryd.prog.built 26 [] = some (vals .u64 (F2 (0, 0))) := by rw [F2_nil]; exact built_none built2
theorem build2a {x : List Int} (h : Nm 6 x) : Tryd.prog.built 26 [(0, .agg (vals .u64 x))] = some (vals .u64 (x ++ List.replicate 6 0)) := built_a built2 h.len
theorem build2b {x : List Int} (h : Nm 6 x) : Tryd.prog.built 26 [(1, .agg (vals .u64 x))] = some (vals .u64 (List.replicate 6 0 ++ x)) := built_b built2 h.len
theorem nm_rep : Nm 6 (List.replicate 6 0) := ⟨rfl, Limb.words_zeros 6⟩
theorem nm_two : Nm 6 [2, 0, 0, 0, 0, 0] := ⟨rfl, Limb.words_of _ (by decide)⟩
end Go.Proofs.YtpnpiiocpjbffaaDoor.Fp2
