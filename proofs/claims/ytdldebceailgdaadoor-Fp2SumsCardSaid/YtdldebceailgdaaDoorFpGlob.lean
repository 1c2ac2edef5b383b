/-
  Own text. From a card's condition: package fp's variables (and the table of math/bits) lie as the program lays them.
-/
import Derived.Test.YtdldebceailgdaaDoorRows
import Derived.Test.YtdldebceailgdaaDoorLaid
import Derived.Test.YtdldebceailgdaaDoorFpW10
namespace Go.Proofs.YtdldebceailgdaaDoor.Fp
open Go Go.RowKit Go.Proofs.YtdldebceailgdaaDoor.Reg

def rRows : List (List Int) := [[8505329371266088957, 17002214543764226050, 6865905132761471162, 8632934651105793861, 6631298214892334189, 1582556514881692819], [4807590280750076774, 8612159356199394243, 12878354973820563945, 2337167537087690866, 6431483094484234427, 293241525500371865], [10843886736844221597, 4986109583520628558, 9383303180058691654, 1580741160401819599, 18066133864166594236, 201357114324440772], [11396969636769438951, 14906441553275738803, 11575976719427520033, 16041729168491046160, 17227550989889470529, 1634297007776406087], [530084278580445711, 4523507806283684619, 1624132434792508366, 9756551939738585554, 1581692023382530096, 1123129913263140485], [18197539513313378263, 5220802458584164551, 14995588168058310184, 2582428486095855617, 11648352368840172979, 145533648938993496]]
theorem rRows_flat : rRows.flatten = rL := by decide
theorem has_of {W : World} {g : Nat} {k : IntKind} {zs : List Int} {cs : Array Value} (e : cs.toList = zs.map (Value.int k)) (hn : 0 < zs.length) (h : 0 < cs.size → ∃ t, Has W g t cs) : ∃ t, Has W g t (vals k zs) := by
  have e2 : cs = vals k zs := by rw [vals, ← e]
  rw [← e2]
  exact h (by rw [e2, vals_size]; exact hn)
theorem glob_of {laid : List (String × DataW Unit)} {W : World} (hp : (laid.all fun x => x.2.handleName?.isNone) = true) (h : laidMetH Tryd.prog laid W) (m1 : ("sigil/fp.prime", Rows.laid_sigil_fp_prime) ∈ laid) (m2 : ("sigil/fp.residues", Rows.laid_sigil_fp_residues) ∈ laid) : Glob W := by
  obtain ⟨c1, f1, p1, d1, r1⟩ := laid_block hp h m1 (g := 0) (t := 24) (by kernel_rfl) (by kernel_rfl)
  obtain ⟨c2, f2, p2, d2, r2⟩ := laid_block hp h m2 (g := 1) (t := 66) (by kernel_rfl) (by kernel_rfl)
  have e1 := ints_of_trod (k := .u64) pL Tryd.underlying24 Tryd.underlying22 (by kernel_rfl) (by kernel_rfl) d1
  have e2 := rows_of_trod (k := .u64) rRows Tryd.underlying66 Tryd.underlying24 Tryd.underlying22 (by kernel_rfl) (by kernel_rfl) (by kernel_rfl) d2
  rw [rRows_flat] at e2
  exact ⟨has_of e1 (by decide) r1, has_of e2 (by decide) r2⟩
theorem globD_of {laid : List (String × DataW Unit)} {W : World} (hp : (laid.all fun x => x.2.handleName?.isNone) = true) (h : laidMetH Tryd.prog laid W) (m1 : ("sigil/fp.prime", Rows.laid_sigil_fp_prime) ∈ laid) (m2 : ("sigil/fp.residues", Rows.laid_sigil_fp_residues) ∈ laid) (m3 : ("math/bits.deBruijn64tab", Rows.laid_math_bits_deBruijn64tab) ∈ laid) : GlobD W := by
  obtain ⟨c3, f3, p3, d3, r3⟩ := laid_block hp h m3 (g := 4) (t := 74) (by kernel_rfl) (by kernel_rfl)
  have e3 := ints_of_trod (k := .u8) dbL Tryd.underlying74 Tryd.underlying5 (by kernel_rfl) (by kernel_rfl) d3
  exact ⟨glob_of hp h m1 m2, has_of e3 (by decide) r3⟩
end Go.Proofs.YtdldebceailgdaaDoor.Fp
