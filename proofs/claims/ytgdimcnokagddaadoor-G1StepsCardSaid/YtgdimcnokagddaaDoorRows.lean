/-
  NARROWER THAN 'FOR EVERY INPUT', by the rows' own cells (each row's printed sentence says how): G1Names: laid · G1Adds: laid · G1Muls: laid · G1Sums: laid · G1Closed: laid · G1Brackets: laid · G1Steps: laid · G1Undoes: laid.
  DERIVED. THE GIVEN ROWS OF THIS SEAT. 8 by the template 'for every input the law returns true; each argument reads behind the call as it read before'; 0 by the template 'total and deterministic' (their statements: YtgdimcnokagddaaDoorTotals.lean).
  GIVEN WITH THE SEED: the statements are not yours to turn. If you find one false, say at which input.
  Laid BY PROGRAM, IN A SANDBOX (cutbox-rows.mjs): the forced cells as the released guide's own fill.sh prints them over the translation 506c3576da712db7… (all of the seat's roots in one cut). By AI agents, Wed Nov 11 2026. No macro, syntax, notation, axiom, sorry.
-/
import Derived.Test.YtgdimcnokagddaaDoorChecked
import GoSem.Claim
import GoSem.ClaimJoined
import GoSem.ClaimMapViews
import Derived.JoinedTies
import Derived.KernelRfl
namespace Go.Proofs.YtgdimcnokagddaaDoor
/- THE CELL 'sum', in the pinned program and in every row, IS THE sha256 OF THE DUMP (.gsa) THAT YtgdimcnokagddaaDoorProg.lean LOADS. Nothing in Lean hashes anything: it is a label: what it is worth is what the hold of that sum in a sandbox is worth. -/
noncomputable def Tryd.pinned : Pinned := { name := "ytgdimcnokagddaadoor", sum := "506c3576da712db7b6099ffaeee37ff9c098202472a7336a509ea6223319344c", checked := Tryd.checked }
namespace Rows
def none {H : Type} : Left H := { results := [], args := [] }

/- WHAT THE LISTED PACKAGE-LEVEL VARIABLES READ AS WHEN THE CALL BEGINS. Each datum BY PROGRAM (the guide's laid-datum.mjs) off the statement by which the dump's own 'gosem.cut.vars' lays the variable. In a bare row this is a premise. The card (YtgdimcnokagddaaDoorCards.lean) ties it to the program's text. -/
def laid_math_bits_deBruijn64tab {H : Type} : DataW H := .agg [.lit (.int .u8 0), .lit (.int .u8 1), .lit (.int .u8 56), .lit (.int .u8 2), .lit (.int .u8 57), .lit (.int .u8 49), .lit (.int .u8 28), .lit (.int .u8 3), .lit (.int .u8 61), .lit (.int .u8 58), .lit (.int .u8 42), .lit (.int .u8 50), .lit (.int .u8 38), .lit (.int .u8 29), .lit (.int .u8 17), .lit (.int .u8 4), .lit (.int .u8 62), .lit (.int .u8 47), .lit (.int .u8 59), .lit (.int .u8 36), .lit (.int .u8 45), .lit (.int .u8 43), .lit (.int .u8 51), .lit (.int .u8 22), .lit (.int .u8 53), .lit (.int .u8 39), .lit (.int .u8 33), .lit (.int .u8 30), .lit (.int .u8 24), .lit (.int .u8 18), .lit (.int .u8 12), .lit (.int .u8 5), .lit (.int .u8 63), .lit (.int .u8 55), .lit (.int .u8 48), .lit (.int .u8 27), .lit (.int .u8 60), .lit (.int .u8 41), .lit (.int .u8 37), .lit (.int .u8 16), .lit (.int .u8 46), .lit (.int .u8 35), .lit (.int .u8 44), .lit (.int .u8 21), .lit (.int .u8 52), .lit (.int .u8 32), .lit (.int .u8 23), .lit (.int .u8 11), .lit (.int .u8 54), .lit (.int .u8 26), .lit (.int .u8 40), .lit (.int .u8 15), .lit (.int .u8 34), .lit (.int .u8 20), .lit (.int .u8 31), .lit (.int .u8 10), .lit (.int .u8 25), .lit (.int .u8 14), .lit (.int .u8 19), .lit (.int .u8 9), .lit (.int .u8 13), .lit (.int .u8 8), .lit (.int .u8 7), .lit (.int .u8 6)]
def laid_sigil_fp_prime {H : Type} : DataW H := .agg [.lit (.int .u64 13402431016077863595), .lit (.int .u64 2210141511517208575), .lit (.int .u64 7435674573564081700), .lit (.int .u64 7239337960414712511), .lit (.int .u64 5412103778470702295), .lit (.int .u64 1873798617647539866)]
def laid_sigil_fp_residues {H : Type} : DataW H := .agg [.agg [.lit (.int .u64 8505329371266088957), .lit (.int .u64 17002214543764226050), .lit (.int .u64 6865905132761471162), .lit (.int .u64 8632934651105793861), .lit (.int .u64 6631298214892334189), .lit (.int .u64 1582556514881692819)], .agg [.lit (.int .u64 4807590280750076774), .lit (.int .u64 8612159356199394243), .lit (.int .u64 12878354973820563945), .lit (.int .u64 2337167537087690866), .lit (.int .u64 6431483094484234427), .lit (.int .u64 293241525500371865)], .agg [.lit (.int .u64 10843886736844221597), .lit (.int .u64 4986109583520628558), .lit (.int .u64 9383303180058691654), .lit (.int .u64 1580741160401819599), .lit (.int .u64 18066133864166594236), .lit (.int .u64 201357114324440772)], .agg [.lit (.int .u64 11396969636769438951), .lit (.int .u64 14906441553275738803), .lit (.int .u64 11575976719427520033), .lit (.int .u64 16041729168491046160), .lit (.int .u64 17227550989889470529), .lit (.int .u64 1634297007776406087)], .agg [.lit (.int .u64 530084278580445711), .lit (.int .u64 4523507806283684619), .lit (.int .u64 1624132434792508366), .lit (.int .u64 9756551939738585554), .lit (.int .u64 1581692023382530096), .lit (.int .u64 1123129913263140485)], .agg [.lit (.int .u64 18197539513313378263), .lit (.int .u64 5220802458584164551), .lit (.int .u64 14995588168058310184), .lit (.int .u64 2582428486095855617), .lit (.int .u64 11648352368840172979), .lit (.int .u64 145533648938993496)]]

/-- 'sigillaw12.G1Names': WHATEVER THE INPUT: true; the input reads as it did. -/
def g1NamesSpec : ChangeSpec := { name := "g1Names", fn := fun _ => fun
  | [] => { results := [.lit (.bool true)], args := [] }
  | _ => none }
def g1NamesRow : OpenClaim := { program := "ytgdimcnokagddaadoor", sum := "506c3576da712db7b6099ffaeee37ff9c098202472a7336a509ea6223319344c", func := "sigil/sigillaw12.G1Names", spec := "g1Names", inPlace := ["math/bits.Add64", "math/bits.Sub64"], unfollowed := true, recurses := true, named := ["sigil/fp.residues", "sigil/fp.prime", "math/bits.deBruijn64tab"], apart := false, laid := [("math/bits.deBruijn64tab", laid_math_bits_deBruijn64tab), ("sigil/fp.prime", laid_sigil_fp_prime), ("sigil/fp.residues", laid_sigil_fp_residues)] }
def G1NamesSaid : Prop := g1NamesRow.holds Tryd.pinned (OpenSpec.ofChange g1NamesSpec)

/-- ITS FALSE NEIGHBOUR: 'it returns false'. Refute it at one input. -/
def g1NamesWrong : ChangeSpec := { name := "g1Names", fn := fun _ => fun
  | [] => { results := [.lit (.bool false)], args := [] }
  | _ => none }
def G1NamesWrongFalsely : Prop := g1NamesRow.holds Tryd.pinned (OpenSpec.ofChange g1NamesWrong)

/-- 'sigillaw12.G1Adds': WHATEVER THE INPUT: true; the input reads as it did. -/
def g1AddsSpec : ChangeSpec := { name := "g1Adds", fn := fun _ => fun
  | [d1, d2] => { results := [.lit (.bool true)], args := [d1, d2] }
  | _ => none }
def g1AddsRow : OpenClaim := { program := "ytgdimcnokagddaadoor", sum := "506c3576da712db7b6099ffaeee37ff9c098202472a7336a509ea6223319344c", func := "sigil/sigillaw12.G1Adds", spec := "g1Adds", inPlace := ["math/bits.Add64", "math/bits.Sub64"], unfollowed := true, recurses := true, named := ["sigil/fp.residues", "sigil/fp.prime", "math/bits.deBruijn64tab", "math/bits.divideError", "math/bits.overflowError"], apart := false, laid := [("math/bits.deBruijn64tab", laid_math_bits_deBruijn64tab), ("sigil/fp.prime", laid_sigil_fp_prime), ("sigil/fp.residues", laid_sigil_fp_residues)] }
def G1AddsSaid : Prop := g1AddsRow.holds Tryd.pinned (OpenSpec.ofChange g1AddsSpec)

/-- ITS FALSE NEIGHBOUR: 'it returns false'. Refute it at one input. -/
def g1AddsWrong : ChangeSpec := { name := "g1Adds", fn := fun _ => fun
  | [d1, d2] => { results := [.lit (.bool false)], args := [d1, d2] }
  | _ => none }
def G1AddsWrongFalsely : Prop := g1AddsRow.holds Tryd.pinned (OpenSpec.ofChange g1AddsWrong)

/-- 'sigillaw12.G1Muls': WHATEVER THE INPUT: true; the input reads as it did. -/
def g1MulsSpec : ChangeSpec := { name := "g1Muls", fn := fun _ => fun
  | [d1, d2] => { results := [.lit (.bool true)], args := [d1, d2] }
  | _ => none }
def g1MulsRow : OpenClaim := { program := "ytgdimcnokagddaadoor", sum := "506c3576da712db7b6099ffaeee37ff9c098202472a7336a509ea6223319344c", func := "sigil/sigillaw12.G1Muls", spec := "g1Muls", inPlace := ["math/bits.Add64", "math/bits.Sub64"], unfollowed := true, recurses := true, named := ["sigil/fp.residues", "sigil/fp.prime", "math/bits.deBruijn64tab", "math/bits.divideError", "math/bits.overflowError"], apart := false, laid := [("math/bits.deBruijn64tab", laid_math_bits_deBruijn64tab), ("sigil/fp.prime", laid_sigil_fp_prime), ("sigil/fp.residues", laid_sigil_fp_residues)] }
def G1MulsSaid : Prop := g1MulsRow.holds Tryd.pinned (OpenSpec.ofChange g1MulsSpec)

/-- ITS FALSE NEIGHBOUR: 'it returns false'. Refute it at one input. -/
def g1MulsWrong : ChangeSpec := { name := "g1Muls", fn := fun _ => fun
  | [d1, d2] => { results := [.lit (.bool false)], args := [d1, d2] }
  | _ => none }
def G1MulsWrongFalsely : Prop := g1MulsRow.holds Tryd.pinned (OpenSpec.ofChange g1MulsWrong)

/-- 'sigillaw12.G1Sums': WHATEVER THE INPUT: true; the input reads as it did. -/
def g1SumsSpec : ChangeSpec := { name := "g1Sums", fn := fun _ => fun
  | [d1, d2] => { results := [.lit (.bool true)], args := [d1, d2] }
  | _ => none }
def g1SumsRow : OpenClaim := { program := "ytgdimcnokagddaadoor", sum := "506c3576da712db7b6099ffaeee37ff9c098202472a7336a509ea6223319344c", func := "sigil/sigillaw12.G1Sums", spec := "g1Sums", inPlace := ["math/bits.Add64", "math/bits.Sub64"], unfollowed := true, recurses := true, named := ["sigil/fp.residues", "sigil/fp.prime", "math/bits.deBruijn64tab", "math/bits.divideError", "math/bits.overflowError"], apart := false, laid := [("math/bits.deBruijn64tab", laid_math_bits_deBruijn64tab), ("sigil/fp.prime", laid_sigil_fp_prime), ("sigil/fp.residues", laid_sigil_fp_residues)] }
def G1SumsSaid : Prop := g1SumsRow.holds Tryd.pinned (OpenSpec.ofChange g1SumsSpec)

/-- ITS FALSE NEIGHBOUR: 'it returns false'. Refute it at one input. -/
def g1SumsWrong : ChangeSpec := { name := "g1Sums", fn := fun _ => fun
  | [d1, d2] => { results := [.lit (.bool false)], args := [d1, d2] }
  | _ => none }
def G1SumsWrongFalsely : Prop := g1SumsRow.holds Tryd.pinned (OpenSpec.ofChange g1SumsWrong)

/-- 'sigillaw12.G1Closed': WHATEVER THE INPUT: true; the input reads as it did. -/
def g1ClosedSpec : ChangeSpec := { name := "g1Closed", fn := fun _ => fun
  | [d1, d2, d3] => { results := [.lit (.bool true)], args := [d1, d2, d3] }
  | _ => none }
def g1ClosedRow : OpenClaim := { program := "ytgdimcnokagddaadoor", sum := "506c3576da712db7b6099ffaeee37ff9c098202472a7336a509ea6223319344c", func := "sigil/sigillaw12.G1Closed", spec := "g1Closed", inPlace := ["math/bits.Add64", "math/bits.Sub64"], unfollowed := true, recurses := true, named := ["sigil/fp.residues", "sigil/fp.prime", "math/bits.deBruijn64tab"], apart := false, laid := [("math/bits.deBruijn64tab", laid_math_bits_deBruijn64tab), ("sigil/fp.prime", laid_sigil_fp_prime), ("sigil/fp.residues", laid_sigil_fp_residues)] }
def G1ClosedSaid : Prop := g1ClosedRow.holds Tryd.pinned (OpenSpec.ofChange g1ClosedSpec)

/-- ITS FALSE NEIGHBOUR: 'it returns false'. Refute it at one input. -/
def g1ClosedWrong : ChangeSpec := { name := "g1Closed", fn := fun _ => fun
  | [d1, d2, d3] => { results := [.lit (.bool false)], args := [d1, d2, d3] }
  | _ => none }
def G1ClosedWrongFalsely : Prop := g1ClosedRow.holds Tryd.pinned (OpenSpec.ofChange g1ClosedWrong)

/-- 'sigillaw12.G1Brackets': WHATEVER THE INPUT: true; the input reads as it did. -/
def g1BracketsSpec : ChangeSpec := { name := "g1Brackets", fn := fun _ => fun
  | [d1, d2, d3] => { results := [.lit (.bool true)], args := [d1, d2, d3] }
  | _ => none }
def g1BracketsRow : OpenClaim := { program := "ytgdimcnokagddaadoor", sum := "506c3576da712db7b6099ffaeee37ff9c098202472a7336a509ea6223319344c", func := "sigil/sigillaw12.G1Brackets", spec := "g1Brackets", inPlace := ["math/bits.Add64", "math/bits.Sub64"], unfollowed := true, recurses := true, named := ["sigil/fp.residues", "sigil/fp.prime", "math/bits.deBruijn64tab"], apart := false, laid := [("math/bits.deBruijn64tab", laid_math_bits_deBruijn64tab), ("sigil/fp.prime", laid_sigil_fp_prime), ("sigil/fp.residues", laid_sigil_fp_residues)] }
def G1BracketsSaid : Prop := g1BracketsRow.holds Tryd.pinned (OpenSpec.ofChange g1BracketsSpec)

/-- ITS FALSE NEIGHBOUR: 'it returns false'. Refute it at one input. -/
def g1BracketsWrong : ChangeSpec := { name := "g1Brackets", fn := fun _ => fun
  | [d1, d2, d3] => { results := [.lit (.bool false)], args := [d1, d2, d3] }
  | _ => none }
def G1BracketsWrongFalsely : Prop := g1BracketsRow.holds Tryd.pinned (OpenSpec.ofChange g1BracketsWrong)

/-- 'sigillaw12.G1Steps': WHATEVER THE INPUT: true; the input reads as it did. -/
def g1StepsSpec : ChangeSpec := { name := "g1Steps", fn := fun _ => fun
  | [d1, d2, d3] => { results := [.lit (.bool true)], args := [d1, d2, d3] }
  | _ => none }
def g1StepsRow : OpenClaim := { program := "ytgdimcnokagddaadoor", sum := "506c3576da712db7b6099ffaeee37ff9c098202472a7336a509ea6223319344c", func := "sigil/sigillaw12.G1Steps", spec := "g1Steps", inPlace := ["math/bits.Add64", "math/bits.Sub64"], unfollowed := true, recurses := true, named := ["sigil/fp.residues", "sigil/fp.prime", "math/bits.deBruijn64tab"], apart := false, laid := [("math/bits.deBruijn64tab", laid_math_bits_deBruijn64tab), ("sigil/fp.prime", laid_sigil_fp_prime), ("sigil/fp.residues", laid_sigil_fp_residues)] }
def G1StepsSaid : Prop := g1StepsRow.holds Tryd.pinned (OpenSpec.ofChange g1StepsSpec)

/-- ITS FALSE NEIGHBOUR: 'it returns false'. Refute it at one input. -/
def g1StepsWrong : ChangeSpec := { name := "g1Steps", fn := fun _ => fun
  | [d1, d2, d3] => { results := [.lit (.bool false)], args := [d1, d2, d3] }
  | _ => none }
def G1StepsWrongFalsely : Prop := g1StepsRow.holds Tryd.pinned (OpenSpec.ofChange g1StepsWrong)

/-- 'sigillaw12.G1Undoes': WHATEVER THE INPUT: true; the input reads as it did. -/
def g1UndoesSpec : ChangeSpec := { name := "g1Undoes", fn := fun _ => fun
  | [d1, d2] => { results := [.lit (.bool true)], args := [d1, d2] }
  | _ => none }
def g1UndoesRow : OpenClaim := { program := "ytgdimcnokagddaadoor", sum := "506c3576da712db7b6099ffaeee37ff9c098202472a7336a509ea6223319344c", func := "sigil/sigillaw12.G1Undoes", spec := "g1Undoes", inPlace := ["math/bits.Add64", "math/bits.Sub64"], unfollowed := true, recurses := true, named := ["sigil/fp.residues", "sigil/fp.prime", "math/bits.deBruijn64tab"], apart := false, laid := [("math/bits.deBruijn64tab", laid_math_bits_deBruijn64tab), ("sigil/fp.prime", laid_sigil_fp_prime), ("sigil/fp.residues", laid_sigil_fp_residues)] }
def G1UndoesSaid : Prop := g1UndoesRow.holds Tryd.pinned (OpenSpec.ofChange g1UndoesSpec)

/-- ITS FALSE NEIGHBOUR: 'it returns false'. Refute it at one input. -/
def g1UndoesWrong : ChangeSpec := { name := "g1Undoes", fn := fun _ => fun
  | [d1, d2] => { results := [.lit (.bool false)], args := [d1, d2] }
  | _ => none }
def G1UndoesWrongFalsely : Prop := g1UndoesRow.holds Tryd.pinned (OpenSpec.ofChange g1UndoesWrong)

/- THE SECOND FORM. 'bulk': how many values and letters a reading holds, each counted each time it is reached (what is shared counts as often as it is met; a slice's spare places count too). A statement '..UptoSaid' is the law's where the arguments, and the package variables that the reading takes, are together of bulk at most 1048576: NARROWER than '..Said'. Prove '..Said' where nothing that the law and all that it calls make is longer than what came in: it says more and counts as full. Else prove '..UptoSaid'. A law counts once. -/
mutual
def uptoBulk {H : Type} : DataW H → Nat
  | .lit (.string bytes) => bytes.length + 1
  | .lit _ => 1
  | .nil => 1
  | .ptr d => uptoBulk d + 1
  | .slice elems spare => uptoBulkAll elems + uptoBulkAll spare + 1
  | .agg parts => uptoBulkAll parts + 1
  | .iface _ d => uptoBulk d + 1
  | .map entries => uptoBulkEntries entries + 1
  | .held _ => 1
def uptoBulkAll {H : Type} : List (DataW H) → Nat
  | [] => 0
  | d :: r => uptoBulk d + uptoBulkAll r
def uptoBulkEntries {H : Type} : List (Lit × DataW H) → Nat
  | [] => 0
  | x :: r => uptoBulkEntry x + uptoBulkEntries r
def uptoBulkEntry {H : Type} : Lit × DataW H → Nat
  | (.string bytes, d) => bytes.length + uptoBulk d + 1
  | (_, d) => uptoBulk d + 1
 end
def uptoSmall : (H : Type) → List (DataW H) → Bool := fun _ ds => decide (uptoBulkAll ds ≤ 1048576)
def OpenSpec.upto (s : _root_.Go.ChangeSpec) : _root_.Go.OpenSpec := { _root_.Go.OpenSpec.ofChange s with cond := some uptoSmall }

/-- 'sigillaw12.G1Names', WHERE WHAT IT READS IS OF BULK AT MOST 1048576: true; the input reads as it did. -/
def g1NamesUptoRow : OpenClaim := { program := "ytgdimcnokagddaadoor", sum := "506c3576da712db7b6099ffaeee37ff9c098202472a7336a509ea6223319344c", func := "sigil/sigillaw12.G1Names", spec := "g1Names", inPlace := ["math/bits.Add64", "math/bits.Sub64"], unfollowed := true, recurses := true, named := ["sigil/fp.residues", "sigil/fp.prime", "math/bits.deBruijn64tab"], apart := false, laid := [("math/bits.deBruijn64tab", laid_math_bits_deBruijn64tab), ("sigil/fp.prime", laid_sigil_fp_prime), ("sigil/fp.residues", laid_sigil_fp_residues)], narrowed := true }
def G1NamesUptoSaid : Prop := g1NamesUptoRow.holds Tryd.pinned (OpenSpec.upto g1NamesSpec)

/-- 'sigillaw12.G1Adds', WHERE WHAT IT READS IS OF BULK AT MOST 1048576: true; the input reads as it did. -/
def g1AddsUptoRow : OpenClaim := { program := "ytgdimcnokagddaadoor", sum := "506c3576da712db7b6099ffaeee37ff9c098202472a7336a509ea6223319344c", func := "sigil/sigillaw12.G1Adds", spec := "g1Adds", inPlace := ["math/bits.Add64", "math/bits.Sub64"], unfollowed := true, recurses := true, named := ["sigil/fp.residues", "sigil/fp.prime", "math/bits.deBruijn64tab", "math/bits.divideError", "math/bits.overflowError"], apart := false, laid := [("math/bits.deBruijn64tab", laid_math_bits_deBruijn64tab), ("sigil/fp.prime", laid_sigil_fp_prime), ("sigil/fp.residues", laid_sigil_fp_residues)], narrowed := true }
def G1AddsUptoSaid : Prop := g1AddsUptoRow.holds Tryd.pinned (OpenSpec.upto g1AddsSpec)

/-- 'sigillaw12.G1Muls', WHERE WHAT IT READS IS OF BULK AT MOST 1048576: true; the input reads as it did. -/
def g1MulsUptoRow : OpenClaim := { program := "ytgdimcnokagddaadoor", sum := "506c3576da712db7b6099ffaeee37ff9c098202472a7336a509ea6223319344c", func := "sigil/sigillaw12.G1Muls", spec := "g1Muls", inPlace := ["math/bits.Add64", "math/bits.Sub64"], unfollowed := true, recurses := true, named := ["sigil/fp.residues", "sigil/fp.prime", "math/bits.deBruijn64tab", "math/bits.divideError", "math/bits.overflowError"], apart := false, laid := [("math/bits.deBruijn64tab", laid_math_bits_deBruijn64tab), ("sigil/fp.prime", laid_sigil_fp_prime), ("sigil/fp.residues", laid_sigil_fp_residues)], narrowed := true }
def G1MulsUptoSaid : Prop := g1MulsUptoRow.holds Tryd.pinned (OpenSpec.upto g1MulsSpec)

/-- 'sigillaw12.G1Sums', WHERE WHAT IT READS IS OF BULK AT MOST 1048576: true; the input reads as it did. -/
def g1SumsUptoRow : OpenClaim := { program := "ytgdimcnokagddaadoor", sum := "506c3576da712db7b6099ffaeee37ff9c098202472a7336a509ea6223319344c", func := "sigil/sigillaw12.G1Sums", spec := "g1Sums", inPlace := ["math/bits.Add64", "math/bits.Sub64"], unfollowed := true, recurses := true, named := ["sigil/fp.residues", "sigil/fp.prime", "math/bits.deBruijn64tab", "math/bits.divideError", "math/bits.overflowError"], apart := false, laid := [("math/bits.deBruijn64tab", laid_math_bits_deBruijn64tab), ("sigil/fp.prime", laid_sigil_fp_prime), ("sigil/fp.residues", laid_sigil_fp_residues)], narrowed := true }
def G1SumsUptoSaid : Prop := g1SumsUptoRow.holds Tryd.pinned (OpenSpec.upto g1SumsSpec)

/-- 'sigillaw12.G1Closed', WHERE WHAT IT READS IS OF BULK AT MOST 1048576: true; the input reads as it did. -/
def g1ClosedUptoRow : OpenClaim := { program := "ytgdimcnokagddaadoor", sum := "506c3576da712db7b6099ffaeee37ff9c098202472a7336a509ea6223319344c", func := "sigil/sigillaw12.G1Closed", spec := "g1Closed", inPlace := ["math/bits.Add64", "math/bits.Sub64"], unfollowed := true, recurses := true, named := ["sigil/fp.residues", "sigil/fp.prime", "math/bits.deBruijn64tab"], apart := false, laid := [("math/bits.deBruijn64tab", laid_math_bits_deBruijn64tab), ("sigil/fp.prime", laid_sigil_fp_prime), ("sigil/fp.residues", laid_sigil_fp_residues)], narrowed := true }
def G1ClosedUptoSaid : Prop := g1ClosedUptoRow.holds Tryd.pinned (OpenSpec.upto g1ClosedSpec)

/-- 'sigillaw12.G1Brackets', WHERE WHAT IT READS IS OF BULK AT MOST 1048576: true; the input reads as it did. -/
def g1BracketsUptoRow : OpenClaim := { program := "ytgdimcnokagddaadoor", sum := "506c3576da712db7b6099ffaeee37ff9c098202472a7336a509ea6223319344c", func := "sigil/sigillaw12.G1Brackets", spec := "g1Brackets", inPlace := ["math/bits.Add64", "math/bits.Sub64"], unfollowed := true, recurses := true, named := ["sigil/fp.residues", "sigil/fp.prime", "math/bits.deBruijn64tab"], apart := false, laid := [("math/bits.deBruijn64tab", laid_math_bits_deBruijn64tab), ("sigil/fp.prime", laid_sigil_fp_prime), ("sigil/fp.residues", laid_sigil_fp_residues)], narrowed := true }
def G1BracketsUptoSaid : Prop := g1BracketsUptoRow.holds Tryd.pinned (OpenSpec.upto g1BracketsSpec)

/-- 'sigillaw12.G1Steps', WHERE WHAT IT READS IS OF BULK AT MOST 1048576: true; the input reads as it did. -/
def g1StepsUptoRow : OpenClaim := { program := "ytgdimcnokagddaadoor", sum := "506c3576da712db7b6099ffaeee37ff9c098202472a7336a509ea6223319344c", func := "sigil/sigillaw12.G1Steps", spec := "g1Steps", inPlace := ["math/bits.Add64", "math/bits.Sub64"], unfollowed := true, recurses := true, named := ["sigil/fp.residues", "sigil/fp.prime", "math/bits.deBruijn64tab"], apart := false, laid := [("math/bits.deBruijn64tab", laid_math_bits_deBruijn64tab), ("sigil/fp.prime", laid_sigil_fp_prime), ("sigil/fp.residues", laid_sigil_fp_residues)], narrowed := true }
def G1StepsUptoSaid : Prop := g1StepsUptoRow.holds Tryd.pinned (OpenSpec.upto g1StepsSpec)

/-- 'sigillaw12.G1Undoes', WHERE WHAT IT READS IS OF BULK AT MOST 1048576: true; the input reads as it did. -/
def g1UndoesUptoRow : OpenClaim := { program := "ytgdimcnokagddaadoor", sum := "506c3576da712db7b6099ffaeee37ff9c098202472a7336a509ea6223319344c", func := "sigil/sigillaw12.G1Undoes", spec := "g1Undoes", inPlace := ["math/bits.Add64", "math/bits.Sub64"], unfollowed := true, recurses := true, named := ["sigil/fp.residues", "sigil/fp.prime", "math/bits.deBruijn64tab"], apart := false, laid := [("math/bits.deBruijn64tab", laid_math_bits_deBruijn64tab), ("sigil/fp.prime", laid_sigil_fp_prime), ("sigil/fp.residues", laid_sigil_fp_residues)], narrowed := true }
def G1UndoesUptoSaid : Prop := g1UndoesUptoRow.holds Tryd.pinned (OpenSpec.upto g1UndoesSpec)

end Rows
end Go.Proofs.YtgdimcnokagddaaDoor
