/-
  NARROWER THAN 'FOR EVERY INPUT', by the rows' own cells (each row's printed sentence says how): G2Names: laid · G2Adds: laid · G2Muls: laid · G2Sums: laid · G2Closed: laid · G2Brackets: laid · G2Steps: laid · G2Undoes: laid.
  DERIVED. THE GIVEN ROWS OF THIS SEAT. 8 by the template 'for every input the law returns true; each argument reads behind the call as it read before'; 0 by the template 'total and deterministic' (their statements: YtajiinecicghkaaDoorTotals.lean).
  GIVEN WITH THE SEED: the statements are not yours to turn. If you find one false, say at which input.
  Laid BY PROGRAM, IN A SANDBOX (cutbox-rows.mjs): the forced cells as the released guide's own fill.sh prints them over the translation 9b9a24de0a92f482… (all of the seat's roots in one cut). By AI agents, Wed Nov 11 2026. No macro, syntax, notation, axiom, sorry.
-/
import Derived.Test.YtajiinecicghkaaDoorChecked
import GoSem.Claim
import GoSem.ClaimJoined
import GoSem.ClaimMapViews
import Derived.JoinedTies
import Derived.KernelRfl
namespace Go.Proofs.YtajiinecicghkaaDoor
/- THE CELL 'sum', in the pinned program and in every row, IS THE sha256 OF THE DUMP (.gsa) THAT YtajiinecicghkaaDoorProg.lean LOADS. Nothing in Lean hashes anything: it is a label: what it is worth is what the hold of that sum in a sandbox is worth. -/
noncomputable def Tryd.pinned : Pinned := { name := "ytajiinecicghkaadoor", sum := "9b9a24de0a92f4827394ed8cf8099026ed2376f0a20a49202b057d97328b5b29", checked := Tryd.checked }
namespace Rows
def none {H : Type} : Left H := { results := [], args := [] }

/- WHAT THE LISTED PACKAGE-LEVEL VARIABLES READ AS WHEN THE CALL BEGINS. Each datum BY PROGRAM (the guide's laid-datum.mjs) off the statement by which the dump's own 'gosem.cut.vars' lays the variable. In a bare row this is a premise. The card (YtajiinecicghkaaDoorCards.lean) ties it to the program's text. -/
def laid_math_bits_deBruijn64tab {H : Type} : DataW H := .agg [.lit (.int .u8 0), .lit (.int .u8 1), .lit (.int .u8 56), .lit (.int .u8 2), .lit (.int .u8 57), .lit (.int .u8 49), .lit (.int .u8 28), .lit (.int .u8 3), .lit (.int .u8 61), .lit (.int .u8 58), .lit (.int .u8 42), .lit (.int .u8 50), .lit (.int .u8 38), .lit (.int .u8 29), .lit (.int .u8 17), .lit (.int .u8 4), .lit (.int .u8 62), .lit (.int .u8 47), .lit (.int .u8 59), .lit (.int .u8 36), .lit (.int .u8 45), .lit (.int .u8 43), .lit (.int .u8 51), .lit (.int .u8 22), .lit (.int .u8 53), .lit (.int .u8 39), .lit (.int .u8 33), .lit (.int .u8 30), .lit (.int .u8 24), .lit (.int .u8 18), .lit (.int .u8 12), .lit (.int .u8 5), .lit (.int .u8 63), .lit (.int .u8 55), .lit (.int .u8 48), .lit (.int .u8 27), .lit (.int .u8 60), .lit (.int .u8 41), .lit (.int .u8 37), .lit (.int .u8 16), .lit (.int .u8 46), .lit (.int .u8 35), .lit (.int .u8 44), .lit (.int .u8 21), .lit (.int .u8 52), .lit (.int .u8 32), .lit (.int .u8 23), .lit (.int .u8 11), .lit (.int .u8 54), .lit (.int .u8 26), .lit (.int .u8 40), .lit (.int .u8 15), .lit (.int .u8 34), .lit (.int .u8 20), .lit (.int .u8 31), .lit (.int .u8 10), .lit (.int .u8 25), .lit (.int .u8 14), .lit (.int .u8 19), .lit (.int .u8 9), .lit (.int .u8 13), .lit (.int .u8 8), .lit (.int .u8 7), .lit (.int .u8 6)]
def laid_sigil_fp_prime {H : Type} : DataW H := .agg [.lit (.int .u64 13402431016077863595), .lit (.int .u64 2210141511517208575), .lit (.int .u64 7435674573564081700), .lit (.int .u64 7239337960414712511), .lit (.int .u64 5412103778470702295), .lit (.int .u64 1873798617647539866)]
def laid_sigil_fp_residues {H : Type} : DataW H := .agg [.agg [.lit (.int .u64 8505329371266088957), .lit (.int .u64 17002214543764226050), .lit (.int .u64 6865905132761471162), .lit (.int .u64 8632934651105793861), .lit (.int .u64 6631298214892334189), .lit (.int .u64 1582556514881692819)], .agg [.lit (.int .u64 4807590280750076774), .lit (.int .u64 8612159356199394243), .lit (.int .u64 12878354973820563945), .lit (.int .u64 2337167537087690866), .lit (.int .u64 6431483094484234427), .lit (.int .u64 293241525500371865)], .agg [.lit (.int .u64 10843886736844221597), .lit (.int .u64 4986109583520628558), .lit (.int .u64 9383303180058691654), .lit (.int .u64 1580741160401819599), .lit (.int .u64 18066133864166594236), .lit (.int .u64 201357114324440772)], .agg [.lit (.int .u64 11396969636769438951), .lit (.int .u64 14906441553275738803), .lit (.int .u64 11575976719427520033), .lit (.int .u64 16041729168491046160), .lit (.int .u64 17227550989889470529), .lit (.int .u64 1634297007776406087)], .agg [.lit (.int .u64 530084278580445711), .lit (.int .u64 4523507806283684619), .lit (.int .u64 1624132434792508366), .lit (.int .u64 9756551939738585554), .lit (.int .u64 1581692023382530096), .lit (.int .u64 1123129913263140485)], .agg [.lit (.int .u64 18197539513313378263), .lit (.int .u64 5220802458584164551), .lit (.int .u64 14995588168058310184), .lit (.int .u64 2582428486095855617), .lit (.int .u64 11648352368840172979), .lit (.int .u64 145533648938993496)]]

/-- 'sigillaw13.G2Names': WHATEVER THE INPUT: true; the input reads as it did. -/
def g2NamesSpec : ChangeSpec := { name := "g2Names", fn := fun _ => fun
  | [] => { results := [.lit (.bool true)], args := [] }
  | _ => none }
def g2NamesRow : OpenClaim := { program := "ytajiinecicghkaadoor", sum := "9b9a24de0a92f4827394ed8cf8099026ed2376f0a20a49202b057d97328b5b29", func := "sigil/sigillaw13.G2Names", spec := "g2Names", inPlace := ["math/bits.Add64", "math/bits.Sub64"], unfollowed := true, recurses := true, named := ["sigil/fp.residues", "sigil/fp.prime", "math/bits.deBruijn64tab"], apart := false, laid := [("math/bits.deBruijn64tab", laid_math_bits_deBruijn64tab), ("sigil/fp.prime", laid_sigil_fp_prime), ("sigil/fp.residues", laid_sigil_fp_residues)] }
def G2NamesSaid : Prop := g2NamesRow.holds Tryd.pinned (OpenSpec.ofChange g2NamesSpec)

/-- ITS FALSE NEIGHBOUR: 'it returns false'. Refute it at one input. -/
def g2NamesWrong : ChangeSpec := { name := "g2Names", fn := fun _ => fun
  | [] => { results := [.lit (.bool false)], args := [] }
  | _ => none }
def G2NamesWrongFalsely : Prop := g2NamesRow.holds Tryd.pinned (OpenSpec.ofChange g2NamesWrong)

/-- 'sigillaw13.G2Adds': WHATEVER THE INPUT: true; the input reads as it did. -/
def g2AddsSpec : ChangeSpec := { name := "g2Adds", fn := fun _ => fun
  | [d1, d2] => { results := [.lit (.bool true)], args := [d1, d2] }
  | _ => none }
def g2AddsRow : OpenClaim := { program := "ytajiinecicghkaadoor", sum := "9b9a24de0a92f4827394ed8cf8099026ed2376f0a20a49202b057d97328b5b29", func := "sigil/sigillaw13.G2Adds", spec := "g2Adds", inPlace := ["math/bits.Add64", "math/bits.Sub64"], unfollowed := true, recurses := true, named := ["sigil/fp.residues", "sigil/fp.prime", "math/bits.deBruijn64tab", "math/bits.divideError", "math/bits.overflowError"], apart := false, laid := [("math/bits.deBruijn64tab", laid_math_bits_deBruijn64tab), ("sigil/fp.prime", laid_sigil_fp_prime), ("sigil/fp.residues", laid_sigil_fp_residues)] }
def G2AddsSaid : Prop := g2AddsRow.holds Tryd.pinned (OpenSpec.ofChange g2AddsSpec)

/-- ITS FALSE NEIGHBOUR: 'it returns false'. Refute it at one input. -/
def g2AddsWrong : ChangeSpec := { name := "g2Adds", fn := fun _ => fun
  | [d1, d2] => { results := [.lit (.bool false)], args := [d1, d2] }
  | _ => none }
def G2AddsWrongFalsely : Prop := g2AddsRow.holds Tryd.pinned (OpenSpec.ofChange g2AddsWrong)

/-- 'sigillaw13.G2Muls': WHATEVER THE INPUT: true; the input reads as it did. -/
def g2MulsSpec : ChangeSpec := { name := "g2Muls", fn := fun _ => fun
  | [d1, d2] => { results := [.lit (.bool true)], args := [d1, d2] }
  | _ => none }
def g2MulsRow : OpenClaim := { program := "ytajiinecicghkaadoor", sum := "9b9a24de0a92f4827394ed8cf8099026ed2376f0a20a49202b057d97328b5b29", func := "sigil/sigillaw13.G2Muls", spec := "g2Muls", inPlace := ["math/bits.Add64", "math/bits.Sub64"], unfollowed := true, recurses := true, named := ["sigil/fp.residues", "sigil/fp.prime", "math/bits.deBruijn64tab", "math/bits.divideError", "math/bits.overflowError"], apart := false, laid := [("math/bits.deBruijn64tab", laid_math_bits_deBruijn64tab), ("sigil/fp.prime", laid_sigil_fp_prime), ("sigil/fp.residues", laid_sigil_fp_residues)] }
def G2MulsSaid : Prop := g2MulsRow.holds Tryd.pinned (OpenSpec.ofChange g2MulsSpec)

/-- ITS FALSE NEIGHBOUR: 'it returns false'. Refute it at one input. -/
def g2MulsWrong : ChangeSpec := { name := "g2Muls", fn := fun _ => fun
  | [d1, d2] => { results := [.lit (.bool false)], args := [d1, d2] }
  | _ => none }
def G2MulsWrongFalsely : Prop := g2MulsRow.holds Tryd.pinned (OpenSpec.ofChange g2MulsWrong)

/-- 'sigillaw13.G2Sums': WHATEVER THE INPUT: true; the input reads as it did. -/
def g2SumsSpec : ChangeSpec := { name := "g2Sums", fn := fun _ => fun
  | [d1, d2] => { results := [.lit (.bool true)], args := [d1, d2] }
  | _ => none }
def g2SumsRow : OpenClaim := { program := "ytajiinecicghkaadoor", sum := "9b9a24de0a92f4827394ed8cf8099026ed2376f0a20a49202b057d97328b5b29", func := "sigil/sigillaw13.G2Sums", spec := "g2Sums", inPlace := ["math/bits.Add64", "math/bits.Sub64"], unfollowed := true, recurses := true, named := ["sigil/fp.residues", "sigil/fp.prime", "math/bits.deBruijn64tab", "math/bits.divideError", "math/bits.overflowError"], apart := false, laid := [("math/bits.deBruijn64tab", laid_math_bits_deBruijn64tab), ("sigil/fp.prime", laid_sigil_fp_prime), ("sigil/fp.residues", laid_sigil_fp_residues)] }
def G2SumsSaid : Prop := g2SumsRow.holds Tryd.pinned (OpenSpec.ofChange g2SumsSpec)

/-- ITS FALSE NEIGHBOUR: 'it returns false'. Refute it at one input. -/
def g2SumsWrong : ChangeSpec := { name := "g2Sums", fn := fun _ => fun
  | [d1, d2] => { results := [.lit (.bool false)], args := [d1, d2] }
  | _ => none }
def G2SumsWrongFalsely : Prop := g2SumsRow.holds Tryd.pinned (OpenSpec.ofChange g2SumsWrong)

/-- 'sigillaw13.G2Closed': WHATEVER THE INPUT: true; the input reads as it did. -/
def g2ClosedSpec : ChangeSpec := { name := "g2Closed", fn := fun _ => fun
  | [d1, d2, d3] => { results := [.lit (.bool true)], args := [d1, d2, d3] }
  | _ => none }
def g2ClosedRow : OpenClaim := { program := "ytajiinecicghkaadoor", sum := "9b9a24de0a92f4827394ed8cf8099026ed2376f0a20a49202b057d97328b5b29", func := "sigil/sigillaw13.G2Closed", spec := "g2Closed", inPlace := ["math/bits.Add64", "math/bits.Sub64"], unfollowed := true, recurses := true, named := ["sigil/fp.residues", "sigil/fp.prime", "math/bits.deBruijn64tab"], apart := false, laid := [("math/bits.deBruijn64tab", laid_math_bits_deBruijn64tab), ("sigil/fp.prime", laid_sigil_fp_prime), ("sigil/fp.residues", laid_sigil_fp_residues)] }
def G2ClosedSaid : Prop := g2ClosedRow.holds Tryd.pinned (OpenSpec.ofChange g2ClosedSpec)

/-- ITS FALSE NEIGHBOUR: 'it returns false'. Refute it at one input. -/
def g2ClosedWrong : ChangeSpec := { name := "g2Closed", fn := fun _ => fun
  | [d1, d2, d3] => { results := [.lit (.bool false)], args := [d1, d2, d3] }
  | _ => none }
def G2ClosedWrongFalsely : Prop := g2ClosedRow.holds Tryd.pinned (OpenSpec.ofChange g2ClosedWrong)

/-- 'sigillaw13.G2Brackets': WHATEVER THE INPUT: true; the input reads as it did. -/
def g2BracketsSpec : ChangeSpec := { name := "g2Brackets", fn := fun _ => fun
  | [d1, d2, d3] => { results := [.lit (.bool true)], args := [d1, d2, d3] }
  | _ => none }
def g2BracketsRow : OpenClaim := { program := "ytajiinecicghkaadoor", sum := "9b9a24de0a92f4827394ed8cf8099026ed2376f0a20a49202b057d97328b5b29", func := "sigil/sigillaw13.G2Brackets", spec := "g2Brackets", inPlace := ["math/bits.Add64", "math/bits.Sub64"], unfollowed := true, recurses := true, named := ["sigil/fp.residues", "sigil/fp.prime", "math/bits.deBruijn64tab"], apart := false, laid := [("math/bits.deBruijn64tab", laid_math_bits_deBruijn64tab), ("sigil/fp.prime", laid_sigil_fp_prime), ("sigil/fp.residues", laid_sigil_fp_residues)] }
def G2BracketsSaid : Prop := g2BracketsRow.holds Tryd.pinned (OpenSpec.ofChange g2BracketsSpec)

/-- ITS FALSE NEIGHBOUR: 'it returns false'. Refute it at one input. -/
def g2BracketsWrong : ChangeSpec := { name := "g2Brackets", fn := fun _ => fun
  | [d1, d2, d3] => { results := [.lit (.bool false)], args := [d1, d2, d3] }
  | _ => none }
def G2BracketsWrongFalsely : Prop := g2BracketsRow.holds Tryd.pinned (OpenSpec.ofChange g2BracketsWrong)

/-- 'sigillaw13.G2Steps': WHATEVER THE INPUT: true; the input reads as it did. -/
def g2StepsSpec : ChangeSpec := { name := "g2Steps", fn := fun _ => fun
  | [d1, d2, d3] => { results := [.lit (.bool true)], args := [d1, d2, d3] }
  | _ => none }
def g2StepsRow : OpenClaim := { program := "ytajiinecicghkaadoor", sum := "9b9a24de0a92f4827394ed8cf8099026ed2376f0a20a49202b057d97328b5b29", func := "sigil/sigillaw13.G2Steps", spec := "g2Steps", inPlace := ["math/bits.Add64", "math/bits.Sub64"], unfollowed := true, recurses := true, named := ["sigil/fp.residues", "sigil/fp.prime", "math/bits.deBruijn64tab"], apart := false, laid := [("math/bits.deBruijn64tab", laid_math_bits_deBruijn64tab), ("sigil/fp.prime", laid_sigil_fp_prime), ("sigil/fp.residues", laid_sigil_fp_residues)] }
def G2StepsSaid : Prop := g2StepsRow.holds Tryd.pinned (OpenSpec.ofChange g2StepsSpec)

/-- ITS FALSE NEIGHBOUR: 'it returns false'. Refute it at one input. -/
def g2StepsWrong : ChangeSpec := { name := "g2Steps", fn := fun _ => fun
  | [d1, d2, d3] => { results := [.lit (.bool false)], args := [d1, d2, d3] }
  | _ => none }
def G2StepsWrongFalsely : Prop := g2StepsRow.holds Tryd.pinned (OpenSpec.ofChange g2StepsWrong)

/-- 'sigillaw13.G2Undoes': WHATEVER THE INPUT: true; the input reads as it did. -/
def g2UndoesSpec : ChangeSpec := { name := "g2Undoes", fn := fun _ => fun
  | [d1, d2] => { results := [.lit (.bool true)], args := [d1, d2] }
  | _ => none }
def g2UndoesRow : OpenClaim := { program := "ytajiinecicghkaadoor", sum := "9b9a24de0a92f4827394ed8cf8099026ed2376f0a20a49202b057d97328b5b29", func := "sigil/sigillaw13.G2Undoes", spec := "g2Undoes", inPlace := ["math/bits.Add64", "math/bits.Sub64"], unfollowed := true, recurses := true, named := ["sigil/fp.residues", "sigil/fp.prime", "math/bits.deBruijn64tab"], apart := false, laid := [("math/bits.deBruijn64tab", laid_math_bits_deBruijn64tab), ("sigil/fp.prime", laid_sigil_fp_prime), ("sigil/fp.residues", laid_sigil_fp_residues)] }
def G2UndoesSaid : Prop := g2UndoesRow.holds Tryd.pinned (OpenSpec.ofChange g2UndoesSpec)

/-- ITS FALSE NEIGHBOUR: 'it returns false'. Refute it at one input. -/
def g2UndoesWrong : ChangeSpec := { name := "g2Undoes", fn := fun _ => fun
  | [d1, d2] => { results := [.lit (.bool false)], args := [d1, d2] }
  | _ => none }
def G2UndoesWrongFalsely : Prop := g2UndoesRow.holds Tryd.pinned (OpenSpec.ofChange g2UndoesWrong)

/- THE SECOND FORM. 'bulk': how many values and letters a reading holds, each counted each time it is reached (what is shared counts as often as it is met; a slice's spare places count too). A statement '..UptoSaid' is the law's where the arguments, and the package variables that the reading takes, are together of bulk at most 1048576: NARROWER than '..Said'. Prove '..Said' where nothing that the law and all that it calls make is longer than what came in: it says more and counts as full. Else prove '..UptoSaid'. A law counts once. -/
mutual
def uptoBulk {H : Type} : DataW H → Nat
  | .lit (.string bytes) => bytes.length + 1
  | .lit _ => 1
  | .nil => 1
  | .ptr d => uptoBulk d + 1
  | .slice elems spare => uptoBulkAll elems + uptoBulkAll spare + 1
  | .agg parts => uptoBulkAll parts + 1
  | .iface _ d => uptoBulk d + 1
  | .map entries => uptoBulkEntries entries + 1
  | .held _ => 1
def uptoBulkAll {H : Type} : List (DataW H) → Nat
  | [] => 0
  | d :: r => uptoBulk d + uptoBulkAll r
def uptoBulkEntries {H : Type} : List (Lit × DataW H) → Nat
  | [] => 0
  | x :: r => uptoBulkEntry x + uptoBulkEntries r
def uptoBulkEntry {H : Type} : Lit × DataW H → Nat
  | (.string bytes, d) => bytes.length + uptoBulk d + 1
  | (_, d) => uptoBulk d + 1
 end
def uptoSmall : (H : Type) → List (DataW H) → Bool := fun _ ds => decide (uptoBulkAll ds ≤ 1048576)
def OpenSpec.upto (s : _root_.Go.ChangeSpec) : _root_.Go.OpenSpec := { _root_.Go.OpenSpec.ofChange s with cond := some uptoSmall }

/-- 'sigillaw13.G2Names', WHERE WHAT IT READS IS OF BULK AT MOST 1048576: true; the input reads as it did. -/
def g2NamesUptoRow : OpenClaim := { program := "ytajiinecicghkaadoor", sum := "9b9a24de0a92f4827394ed8cf8099026ed2376f0a20a49202b057d97328b5b29", func := "sigil/sigillaw13.G2Names", spec := "g2Names", inPlace := ["math/bits.Add64", "math/bits.Sub64"], unfollowed := true, recurses := true, named := ["sigil/fp.residues", "sigil/fp.prime", "math/bits.deBruijn64tab"], apart := false, laid := [("math/bits.deBruijn64tab", laid_math_bits_deBruijn64tab), ("sigil/fp.prime", laid_sigil_fp_prime), ("sigil/fp.residues", laid_sigil_fp_residues)], narrowed := true }
def G2NamesUptoSaid : Prop := g2NamesUptoRow.holds Tryd.pinned (OpenSpec.upto g2NamesSpec)

/-- 'sigillaw13.G2Adds', WHERE WHAT IT READS IS OF BULK AT MOST 1048576: true; the input reads as it did. -/
def g2AddsUptoRow : OpenClaim := { program := "ytajiinecicghkaadoor", sum := "9b9a24de0a92f4827394ed8cf8099026ed2376f0a20a49202b057d97328b5b29", func := "sigil/sigillaw13.G2Adds", spec := "g2Adds", inPlace := ["math/bits.Add64", "math/bits.Sub64"], unfollowed := true, recurses := true, named := ["sigil/fp.residues", "sigil/fp.prime", "math/bits.deBruijn64tab", "math/bits.divideError", "math/bits.overflowError"], apart := false, laid := [("math/bits.deBruijn64tab", laid_math_bits_deBruijn64tab), ("sigil/fp.prime", laid_sigil_fp_prime), ("sigil/fp.residues", laid_sigil_fp_residues)], narrowed := true }
def G2AddsUptoSaid : Prop := g2AddsUptoRow.holds Tryd.pinned (OpenSpec.upto g2AddsSpec)

/-- 'sigillaw13.G2Muls', WHERE WHAT IT READS IS OF BULK AT MOST 1048576: true; the input reads as it did. -/
def g2MulsUptoRow : OpenClaim := { program := "ytajiinecicghkaadoor", sum := "9b9a24de0a92f4827394ed8cf8099026ed2376f0a20a49202b057d97328b5b29", func := "sigil/sigillaw13.G2Muls", spec := "g2Muls", inPlace := ["math/bits.Add64", "math/bits.Sub64"], unfollowed := true, recurses := true, named := ["sigil/fp.residues", "sigil/fp.prime", "math/bits.deBruijn64tab", "math/bits.divideError", "math/bits.overflowError"], apart := false, laid := [("math/bits.deBruijn64tab", laid_math_bits_deBruijn64tab), ("sigil/fp.prime", laid_sigil_fp_prime), ("sigil/fp.residues", laid_sigil_fp_residues)], narrowed := true }
def G2MulsUptoSaid : Prop := g2MulsUptoRow.holds Tryd.pinned (OpenSpec.upto g2MulsSpec)

/-- 'sigillaw13.G2Sums', WHERE WHAT IT READS IS OF BULK AT MOST 1048576: true; the input reads as it did. -/
def g2SumsUptoRow : OpenClaim := { program := "ytajiinecicghkaadoor", sum := "9b9a24de0a92f4827394ed8cf8099026ed2376f0a20a49202b057d97328b5b29", func := "sigil/sigillaw13.G2Sums", spec := "g2Sums", inPlace := ["math/bits.Add64", "math/bits.Sub64"], unfollowed := true, recurses := true, named := ["sigil/fp.residues", "sigil/fp.prime", "math/bits.deBruijn64tab", "math/bits.divideError", "math/bits.overflowError"], apart := false, laid := [("math/bits.deBruijn64tab", laid_math_bits_deBruijn64tab), ("sigil/fp.prime", laid_sigil_fp_prime), ("sigil/fp.residues", laid_sigil_fp_residues)], narrowed := true }
def G2SumsUptoSaid : Prop := g2SumsUptoRow.holds Tryd.pinned (OpenSpec.upto g2SumsSpec)

/-- 'sigillaw13.G2Closed', WHERE WHAT IT READS IS OF BULK AT MOST 1048576: true; the input reads as it did. -/
def g2ClosedUptoRow : OpenClaim := { program := "ytajiinecicghkaadoor", sum := "9b9a24de0a92f4827394ed8cf8099026ed2376f0a20a49202b057d97328b5b29", func := "sigil/sigillaw13.G2Closed", spec := "g2Closed", inPlace := ["math/bits.Add64", "math/bits.Sub64"], unfollowed := true, recurses := true, named := ["sigil/fp.residues", "sigil/fp.prime", "math/bits.deBruijn64tab"], apart := false, laid := [("math/bits.deBruijn64tab", laid_math_bits_deBruijn64tab), ("sigil/fp.prime", laid_sigil_fp_prime), ("sigil/fp.residues", laid_sigil_fp_residues)], narrowed := true }
def G2ClosedUptoSaid : Prop := g2ClosedUptoRow.holds Tryd.pinned (OpenSpec.upto g2ClosedSpec)

/-- 'sigillaw13.G2Brackets', WHERE WHAT IT READS IS OF BULK AT MOST 1048576: true; the input reads as it did. -/
def g2BracketsUptoRow : OpenClaim := { program := "ytajiinecicghkaadoor", sum := "9b9a24de0a92f4827394ed8cf8099026ed2376f0a20a49202b057d97328b5b29", func := "sigil/sigillaw13.G2Brackets", spec := "g2Brackets", inPlace := ["math/bits.Add64", "math/bits.Sub64"], unfollowed := true, recurses := true, named := ["sigil/fp.residues", "sigil/fp.prime", "math/bits.deBruijn64tab"], apart := false, laid := [("math/bits.deBruijn64tab", laid_math_bits_deBruijn64tab), ("sigil/fp.prime", laid_sigil_fp_prime), ("sigil/fp.residues", laid_sigil_fp_residues)], narrowed := true }
def G2BracketsUptoSaid : Prop := g2BracketsUptoRow.holds Tryd.pinned (OpenSpec.upto g2BracketsSpec)

/-- 'sigillaw13.G2Steps', WHERE WHAT IT READS IS OF BULK AT MOST 1048576: true; the input reads as it did. -/
def g2StepsUptoRow : OpenClaim := { program := "ytajiinecicghkaadoor", sum := "9b9a24de0a92f4827394ed8cf8099026ed2376f0a20a49202b057d97328b5b29", func := "sigil/sigillaw13.G2Steps", spec := "g2Steps", inPlace := ["math/bits.Add64", "math/bits.Sub64"], unfollowed := true, recurses := true, named := ["sigil/fp.residues", "sigil/fp.prime", "math/bits.deBruijn64tab"], apart := false, laid := [("math/bits.deBruijn64tab", laid_math_bits_deBruijn64tab), ("sigil/fp.prime", laid_sigil_fp_prime), ("sigil/fp.residues", laid_sigil_fp_residues)], narrowed := true }
def G2StepsUptoSaid : Prop := g2StepsUptoRow.holds Tryd.pinned (OpenSpec.upto g2StepsSpec)

/-- 'sigillaw13.G2Undoes', WHERE WHAT IT READS IS OF BULK AT MOST 1048576: true; the input reads as it did. -/
def g2UndoesUptoRow : OpenClaim := { program := "ytajiinecicghkaadoor", sum := "9b9a24de0a92f4827394ed8cf8099026ed2376f0a20a49202b057d97328b5b29", func := "sigil/sigillaw13.G2Undoes", spec := "g2Undoes", inPlace := ["math/bits.Add64", "math/bits.Sub64"], unfollowed := true, recurses := true, named := ["sigil/fp.residues", "sigil/fp.prime", "math/bits.deBruijn64tab"], apart := false, laid := [("math/bits.deBruijn64tab", laid_math_bits_deBruijn64tab), ("sigil/fp.prime", laid_sigil_fp_prime), ("sigil/fp.residues", laid_sigil_fp_residues)], narrowed := true }
def G2UndoesUptoSaid : Prop := g2UndoesUptoRow.holds Tryd.pinned (OpenSpec.upto g2UndoesSpec)

end Rows
end Go.Proofs.YtajiinecicghkaaDoor
