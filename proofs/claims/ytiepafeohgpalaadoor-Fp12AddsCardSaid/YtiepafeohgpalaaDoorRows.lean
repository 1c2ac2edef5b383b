/-
  NARROWER THAN 'FOR EVERY INPUT', by the rows' own cells (each row's printed sentence says how): Fp12Sums: laid · Fp12Products: laid · Fp12Powers: laid · Fp12Field: laid · Fp12Inverse: laid · Fp12Conjugates: laid · Fp12Adds: laid · Fp12Within: laid.
  DERIVED. THE GIVEN ROWS OF THIS SEAT. 8 by the template 'for every input the law returns true; each argument reads behind the call as it read before'; 0 by the template 'total and deterministic' (their statements: YtiepafeohgpalaaDoorTotals.lean).
  GIVEN WITH THE SEED: the statements are not yours to turn. If you find one false, say at which input.
  Laid BY PROGRAM, IN A SANDBOX (cutbox-rows.mjs): the forced cells as the released guide's own fill.sh prints them over the translation c5c2866b6b81ace4… (all of the seat's roots in one cut). By AI agents, Wed Nov 11 2026. No macro, syntax, notation, axiom, sorry.
-/
import Derived.Test.YtiepafeohgpalaaDoorChecked
import GoSem.Claim
import GoSem.ClaimJoined
import GoSem.ClaimMapViews
import Derived.JoinedTies
import Derived.KernelRfl
namespace Go.Proofs.YtiepafeohgpalaaDoor
/- THE CELL 'sum', in the pinned program and in every row, IS THE sha256 OF THE DUMP (.gsa) THAT YtiepafeohgpalaaDoorProg.lean LOADS. Nothing in Lean hashes anything: it is a label: what it is worth is what the hold of that sum in a sandbox is worth. -/
noncomputable def Tryd.pinned : Pinned := { name := "ytiepafeohgpalaadoor", sum := "c5c2866b6b81ace444f084f755e9f9a42559063847cf024399f44b5faec11cb1", checked := Tryd.checked }
namespace Rows
def none {H : Type} : Left H := { results := [], args := [] }

/- WHAT THE LISTED PACKAGE-LEVEL VARIABLES READ AS WHEN THE CALL BEGINS. Each datum BY PROGRAM (the guide's laid-datum.mjs) off the statement by which the dump's own 'gosem.cut.vars' lays the variable. In a bare row this is a premise. The card (YtiepafeohgpalaaDoorCards.lean) ties it to the program's text. -/
def laid_math_bits_deBruijn64tab {H : Type} : DataW H := .agg [.lit (.int .u8 0), .lit (.int .u8 1), .lit (.int .u8 56), .lit (.int .u8 2), .lit (.int .u8 57), .lit (.int .u8 49), .lit (.int .u8 28), .lit (.int .u8 3), .lit (.int .u8 61), .lit (.int .u8 58), .lit (.int .u8 42), .lit (.int .u8 50), .lit (.int .u8 38), .lit (.int .u8 29), .lit (.int .u8 17), .lit (.int .u8 4), .lit (.int .u8 62), .lit (.int .u8 47), .lit (.int .u8 59), .lit (.int .u8 36), .lit (.int .u8 45), .lit (.int .u8 43), .lit (.int .u8 51), .lit (.int .u8 22), .lit (.int .u8 53), .lit (.int .u8 39), .lit (.int .u8 33), .lit (.int .u8 30), .lit (.int .u8 24), .lit (.int .u8 18), .lit (.int .u8 12), .lit (.int .u8 5), .lit (.int .u8 63), .lit (.int .u8 55), .lit (.int .u8 48), .lit (.int .u8 27), .lit (.int .u8 60), .lit (.int .u8 41), .lit (.int .u8 37), .lit (.int .u8 16), .lit (.int .u8 46), .lit (.int .u8 35), .lit (.int .u8 44), .lit (.int .u8 21), .lit (.int .u8 52), .lit (.int .u8 32), .lit (.int .u8 23), .lit (.int .u8 11), .lit (.int .u8 54), .lit (.int .u8 26), .lit (.int .u8 40), .lit (.int .u8 15), .lit (.int .u8 34), .lit (.int .u8 20), .lit (.int .u8 31), .lit (.int .u8 10), .lit (.int .u8 25), .lit (.int .u8 14), .lit (.int .u8 19), .lit (.int .u8 9), .lit (.int .u8 13), .lit (.int .u8 8), .lit (.int .u8 7), .lit (.int .u8 6)]
def laid_sigil_fp_prime {H : Type} : DataW H := .agg [.lit (.int .u64 13402431016077863595), .lit (.int .u64 2210141511517208575), .lit (.int .u64 7435674573564081700), .lit (.int .u64 7239337960414712511), .lit (.int .u64 5412103778470702295), .lit (.int .u64 1873798617647539866)]
def laid_sigil_fp_residues {H : Type} : DataW H := .agg [.agg [.lit (.int .u64 8505329371266088957), .lit (.int .u64 17002214543764226050), .lit (.int .u64 6865905132761471162), .lit (.int .u64 8632934651105793861), .lit (.int .u64 6631298214892334189), .lit (.int .u64 1582556514881692819)], .agg [.lit (.int .u64 4807590280750076774), .lit (.int .u64 8612159356199394243), .lit (.int .u64 12878354973820563945), .lit (.int .u64 2337167537087690866), .lit (.int .u64 6431483094484234427), .lit (.int .u64 293241525500371865)], .agg [.lit (.int .u64 10843886736844221597), .lit (.int .u64 4986109583520628558), .lit (.int .u64 9383303180058691654), .lit (.int .u64 1580741160401819599), .lit (.int .u64 18066133864166594236), .lit (.int .u64 201357114324440772)], .agg [.lit (.int .u64 11396969636769438951), .lit (.int .u64 14906441553275738803), .lit (.int .u64 11575976719427520033), .lit (.int .u64 16041729168491046160), .lit (.int .u64 17227550989889470529), .lit (.int .u64 1634297007776406087)], .agg [.lit (.int .u64 530084278580445711), .lit (.int .u64 4523507806283684619), .lit (.int .u64 1624132434792508366), .lit (.int .u64 9756551939738585554), .lit (.int .u64 1581692023382530096), .lit (.int .u64 1123129913263140485)], .agg [.lit (.int .u64 18197539513313378263), .lit (.int .u64 5220802458584164551), .lit (.int .u64 14995588168058310184), .lit (.int .u64 2582428486095855617), .lit (.int .u64 11648352368840172979), .lit (.int .u64 145533648938993496)]]

/-- 'sigillaw10.Fp12Sums': WHATEVER THE INPUT: true; the input reads as it did. -/
def fp12SumsSpec : ChangeSpec := { name := "fp12Sums", fn := fun _ => fun
  | [d1, d2] => { results := [.lit (.bool true)], args := [d1, d2] }
  | _ => none }
def fp12SumsRow : OpenClaim := { program := "ytiepafeohgpalaadoor", sum := "c5c2866b6b81ace444f084f755e9f9a42559063847cf024399f44b5faec11cb1", func := "sigil/sigillaw10.Fp12Sums", spec := "fp12Sums", inPlace := ["math/bits.Add64", "math/bits.Sub64"], unfollowed := true, recurses := true, named := ["sigil/fp.prime", "sigil/fp.residues", "math/bits.deBruijn64tab"], apart := false, laid := [("math/bits.deBruijn64tab", laid_math_bits_deBruijn64tab), ("sigil/fp.prime", laid_sigil_fp_prime), ("sigil/fp.residues", laid_sigil_fp_residues)] }
def Fp12SumsSaid : Prop := fp12SumsRow.holds Tryd.pinned (OpenSpec.ofChange fp12SumsSpec)

/-- ITS FALSE NEIGHBOUR: 'it returns false'. Refute it at one input. -/
def fp12SumsWrong : ChangeSpec := { name := "fp12Sums", fn := fun _ => fun
  | [d1, d2] => { results := [.lit (.bool false)], args := [d1, d2] }
  | _ => none }
def Fp12SumsWrongFalsely : Prop := fp12SumsRow.holds Tryd.pinned (OpenSpec.ofChange fp12SumsWrong)

/-- 'sigillaw10.Fp12Products': WHATEVER THE INPUT: true; the input reads as it did. -/
def fp12ProductsSpec : ChangeSpec := { name := "fp12Products", fn := fun _ => fun
  | [d1, d2] => { results := [.lit (.bool true)], args := [d1, d2] }
  | _ => none }
def fp12ProductsRow : OpenClaim := { program := "ytiepafeohgpalaadoor", sum := "c5c2866b6b81ace444f084f755e9f9a42559063847cf024399f44b5faec11cb1", func := "sigil/sigillaw10.Fp12Products", spec := "fp12Products", inPlace := ["math/bits.Add64", "math/bits.Sub64"], unfollowed := true, recurses := true, named := ["sigil/fp.prime", "sigil/fp.residues", "math/bits.deBruijn64tab", "math/bits.divideError", "math/bits.overflowError"], apart := false, laid := [("math/bits.deBruijn64tab", laid_math_bits_deBruijn64tab), ("sigil/fp.prime", laid_sigil_fp_prime), ("sigil/fp.residues", laid_sigil_fp_residues)] }
def Fp12ProductsSaid : Prop := fp12ProductsRow.holds Tryd.pinned (OpenSpec.ofChange fp12ProductsSpec)

/-- ITS FALSE NEIGHBOUR: 'it returns false'. Refute it at one input. -/
def fp12ProductsWrong : ChangeSpec := { name := "fp12Products", fn := fun _ => fun
  | [d1, d2] => { results := [.lit (.bool false)], args := [d1, d2] }
  | _ => none }
def Fp12ProductsWrongFalsely : Prop := fp12ProductsRow.holds Tryd.pinned (OpenSpec.ofChange fp12ProductsWrong)

/-- 'sigillaw10.Fp12Powers': WHATEVER THE INPUT: true; the input reads as it did. -/
def fp12PowersSpec : ChangeSpec := { name := "fp12Powers", fn := fun _ => fun
  | [d1, d2] => { results := [.lit (.bool true)], args := [d1, d2] }
  | _ => none }
def fp12PowersRow : OpenClaim := { program := "ytiepafeohgpalaadoor", sum := "c5c2866b6b81ace444f084f755e9f9a42559063847cf024399f44b5faec11cb1", func := "sigil/sigillaw10.Fp12Powers", spec := "fp12Powers", inPlace := ["math/bits.Add64", "math/bits.Sub64"], unfollowed := true, recurses := true, named := ["sigil/fp.prime", "sigil/fp.residues", "math/bits.deBruijn64tab", "math/bits.divideError", "math/bits.overflowError"], apart := false, laid := [("math/bits.deBruijn64tab", laid_math_bits_deBruijn64tab), ("sigil/fp.prime", laid_sigil_fp_prime), ("sigil/fp.residues", laid_sigil_fp_residues)] }
def Fp12PowersSaid : Prop := fp12PowersRow.holds Tryd.pinned (OpenSpec.ofChange fp12PowersSpec)

/-- ITS FALSE NEIGHBOUR: 'it returns false'. Refute it at one input. -/
def fp12PowersWrong : ChangeSpec := { name := "fp12Powers", fn := fun _ => fun
  | [d1, d2] => { results := [.lit (.bool false)], args := [d1, d2] }
  | _ => none }
def Fp12PowersWrongFalsely : Prop := fp12PowersRow.holds Tryd.pinned (OpenSpec.ofChange fp12PowersWrong)

/-- 'sigillaw10.Fp12Field': WHATEVER THE INPUT: true; the input reads as it did. -/
def fp12FieldSpec : ChangeSpec := { name := "fp12Field", fn := fun _ => fun
  | [d1, d2, d3] => { results := [.lit (.bool true)], args := [d1, d2, d3] }
  | _ => none }
def fp12FieldRow : OpenClaim := { program := "ytiepafeohgpalaadoor", sum := "c5c2866b6b81ace444f084f755e9f9a42559063847cf024399f44b5faec11cb1", func := "sigil/sigillaw10.Fp12Field", spec := "fp12Field", inPlace := ["math/bits.Add64", "math/bits.Sub64"], unfollowed := true, recurses := true, named := ["sigil/fp.prime", "sigil/fp.residues", "math/bits.deBruijn64tab"], apart := false, laid := [("math/bits.deBruijn64tab", laid_math_bits_deBruijn64tab), ("sigil/fp.prime", laid_sigil_fp_prime), ("sigil/fp.residues", laid_sigil_fp_residues)] }
def Fp12FieldSaid : Prop := fp12FieldRow.holds Tryd.pinned (OpenSpec.ofChange fp12FieldSpec)

/-- ITS FALSE NEIGHBOUR: 'it returns false'. Refute it at one input. -/
def fp12FieldWrong : ChangeSpec := { name := "fp12Field", fn := fun _ => fun
  | [d1, d2, d3] => { results := [.lit (.bool false)], args := [d1, d2, d3] }
  | _ => none }
def Fp12FieldWrongFalsely : Prop := fp12FieldRow.holds Tryd.pinned (OpenSpec.ofChange fp12FieldWrong)

/-- 'sigillaw10.Fp12Inverse': WHATEVER THE INPUT: true; the input reads as it did. -/
def fp12InverseSpec : ChangeSpec := { name := "fp12Inverse", fn := fun _ => fun
  | [d1, d2] => { results := [.lit (.bool true)], args := [d1, d2] }
  | _ => none }
def fp12InverseRow : OpenClaim := { program := "ytiepafeohgpalaadoor", sum := "c5c2866b6b81ace444f084f755e9f9a42559063847cf024399f44b5faec11cb1", func := "sigil/sigillaw10.Fp12Inverse", spec := "fp12Inverse", inPlace := ["math/bits.Add64", "math/bits.Sub64"], unfollowed := true, recurses := true, named := ["sigil/fp.prime", "sigil/fp.residues", "math/bits.deBruijn64tab"], apart := false, laid := [("math/bits.deBruijn64tab", laid_math_bits_deBruijn64tab), ("sigil/fp.prime", laid_sigil_fp_prime), ("sigil/fp.residues", laid_sigil_fp_residues)] }
def Fp12InverseSaid : Prop := fp12InverseRow.holds Tryd.pinned (OpenSpec.ofChange fp12InverseSpec)

/-- ITS FALSE NEIGHBOUR: 'it returns false'. Refute it at one input. -/
def fp12InverseWrong : ChangeSpec := { name := "fp12Inverse", fn := fun _ => fun
  | [d1, d2] => { results := [.lit (.bool false)], args := [d1, d2] }
  | _ => none }
def Fp12InverseWrongFalsely : Prop := fp12InverseRow.holds Tryd.pinned (OpenSpec.ofChange fp12InverseWrong)

/-- 'sigillaw10.Fp12Conjugates': WHATEVER THE INPUT: true; the input reads as it did. -/
def fp12ConjugatesSpec : ChangeSpec := { name := "fp12Conjugates", fn := fun _ => fun
  | [d1, d2] => { results := [.lit (.bool true)], args := [d1, d2] }
  | _ => none }
def fp12ConjugatesRow : OpenClaim := { program := "ytiepafeohgpalaadoor", sum := "c5c2866b6b81ace444f084f755e9f9a42559063847cf024399f44b5faec11cb1", func := "sigil/sigillaw10.Fp12Conjugates", spec := "fp12Conjugates", inPlace := ["math/bits.Add64", "math/bits.Sub64"], unfollowed := true, recurses := true, named := ["sigil/fp.prime", "sigil/fp.residues", "math/bits.deBruijn64tab"], apart := false, laid := [("math/bits.deBruijn64tab", laid_math_bits_deBruijn64tab), ("sigil/fp.prime", laid_sigil_fp_prime), ("sigil/fp.residues", laid_sigil_fp_residues)] }
def Fp12ConjugatesSaid : Prop := fp12ConjugatesRow.holds Tryd.pinned (OpenSpec.ofChange fp12ConjugatesSpec)

/-- ITS FALSE NEIGHBOUR: 'it returns false'. Refute it at one input. -/
def fp12ConjugatesWrong : ChangeSpec := { name := "fp12Conjugates", fn := fun _ => fun
  | [d1, d2] => { results := [.lit (.bool false)], args := [d1, d2] }
  | _ => none }
def Fp12ConjugatesWrongFalsely : Prop := fp12ConjugatesRow.holds Tryd.pinned (OpenSpec.ofChange fp12ConjugatesWrong)

/-- 'sigillaw10.Fp12Adds': WHATEVER THE INPUT: true; the input reads as it did. -/
def fp12AddsSpec : ChangeSpec := { name := "fp12Adds", fn := fun _ => fun
  | [d1, d2, d3] => { results := [.lit (.bool true)], args := [d1, d2, d3] }
  | _ => none }
def fp12AddsRow : OpenClaim := { program := "ytiepafeohgpalaadoor", sum := "c5c2866b6b81ace444f084f755e9f9a42559063847cf024399f44b5faec11cb1", func := "sigil/sigillaw10.Fp12Adds", spec := "fp12Adds", inPlace := ["math/bits.Add64", "math/bits.Sub64"], unfollowed := true, recurses := true, named := ["sigil/fp.prime", "sigil/fp.residues", "math/bits.deBruijn64tab"], apart := false, laid := [("math/bits.deBruijn64tab", laid_math_bits_deBruijn64tab), ("sigil/fp.prime", laid_sigil_fp_prime), ("sigil/fp.residues", laid_sigil_fp_residues)] }
def Fp12AddsSaid : Prop := fp12AddsRow.holds Tryd.pinned (OpenSpec.ofChange fp12AddsSpec)

/-- ITS FALSE NEIGHBOUR: 'it returns false'. Refute it at one input. -/
def fp12AddsWrong : ChangeSpec := { name := "fp12Adds", fn := fun _ => fun
  | [d1, d2, d3] => { results := [.lit (.bool false)], args := [d1, d2, d3] }
  | _ => none }
def Fp12AddsWrongFalsely : Prop := fp12AddsRow.holds Tryd.pinned (OpenSpec.ofChange fp12AddsWrong)

/-- 'sigillaw10.Fp12Within': WHATEVER THE INPUT: true; the input reads as it did. -/
def fp12WithinSpec : ChangeSpec := { name := "fp12Within", fn := fun _ => fun
  | [d1, d2] => { results := [.lit (.bool true)], args := [d1, d2] }
  | _ => none }
def fp12WithinRow : OpenClaim := { program := "ytiepafeohgpalaadoor", sum := "c5c2866b6b81ace444f084f755e9f9a42559063847cf024399f44b5faec11cb1", func := "sigil/sigillaw10.Fp12Within", spec := "fp12Within", inPlace := ["math/bits.Add64", "math/bits.Sub64"], unfollowed := true, recurses := true, named := ["sigil/fp.prime", "sigil/fp.residues", "math/bits.deBruijn64tab"], apart := false, laid := [("math/bits.deBruijn64tab", laid_math_bits_deBruijn64tab), ("sigil/fp.prime", laid_sigil_fp_prime), ("sigil/fp.residues", laid_sigil_fp_residues)] }
def Fp12WithinSaid : Prop := fp12WithinRow.holds Tryd.pinned (OpenSpec.ofChange fp12WithinSpec)

/-- ITS FALSE NEIGHBOUR: 'it returns false'. Refute it at one input. -/
def fp12WithinWrong : ChangeSpec := { name := "fp12Within", fn := fun _ => fun
  | [d1, d2] => { results := [.lit (.bool false)], args := [d1, d2] }
  | _ => none }
def Fp12WithinWrongFalsely : Prop := fp12WithinRow.holds Tryd.pinned (OpenSpec.ofChange fp12WithinWrong)

/- THE SECOND FORM. 'bulk': how many values and letters a reading holds, each counted each time it is reached (what is shared counts as often as it is met; a slice's spare places count too). A statement '..UptoSaid' is the law's where the arguments, and the package variables that the reading takes, are together of bulk at most 1048576: NARROWER than '..Said'. Prove '..Said' where nothing that the law and all that it calls make is longer than what came in: it says more and counts as full. Else prove '..UptoSaid'. A law counts once. -/
mutual
def uptoBulk {H : Type} : DataW H → Nat
  | .lit (.string bytes) => bytes.length + 1
  | .lit _ => 1
  | .nil => 1
  | .ptr d => uptoBulk d + 1
  | .slice elems spare => uptoBulkAll elems + uptoBulkAll spare + 1
  | .agg parts => uptoBulkAll parts + 1
  | .iface _ d => uptoBulk d + 1
  | .map entries => uptoBulkEntries entries + 1
  | .held _ => 1
def uptoBulkAll {H : Type} : List (DataW H) → Nat
  | [] => 0
  | d :: r => uptoBulk d + uptoBulkAll r
def uptoBulkEntries {H : Type} : List (Lit × DataW H) → Nat
  | [] => 0
  | x :: r => uptoBulkEntry x + uptoBulkEntries r
def uptoBulkEntry {H : Type} : Lit × DataW H → Nat
  | (.string bytes, d) => bytes.length + uptoBulk d + 1
  | (_, d) => uptoBulk d + 1
 end
def uptoSmall : (H : Type) → List (DataW H) → Bool := fun _ ds => decide (uptoBulkAll ds ≤ 1048576)
def OpenSpec.upto (s : _root_.Go.ChangeSpec) : _root_.Go.OpenSpec := { _root_.Go.OpenSpec.ofChange s with cond := some uptoSmall }

/-- 'sigillaw10.Fp12Sums', WHERE WHAT IT READS IS OF BULK AT MOST 1048576: true; the input reads as it did. -/
def fp12SumsUptoRow : OpenClaim := { program := "ytiepafeohgpalaadoor", sum := "c5c2866b6b81ace444f084f755e9f9a42559063847cf024399f44b5faec11cb1", func := "sigil/sigillaw10.Fp12Sums", spec := "fp12Sums", inPlace := ["math/bits.Add64", "math/bits.Sub64"], unfollowed := true, recurses := true, named := ["sigil/fp.prime", "sigil/fp.residues", "math/bits.deBruijn64tab"], apart := false, laid := [("math/bits.deBruijn64tab", laid_math_bits_deBruijn64tab), ("sigil/fp.prime", laid_sigil_fp_prime), ("sigil/fp.residues", laid_sigil_fp_residues)], narrowed := true }
def Fp12SumsUptoSaid : Prop := fp12SumsUptoRow.holds Tryd.pinned (OpenSpec.upto fp12SumsSpec)

/-- 'sigillaw10.Fp12Products', WHERE WHAT IT READS IS OF BULK AT MOST 1048576: true; the input reads as it did. -/
def fp12ProductsUptoRow : OpenClaim := { program := "ytiepafeohgpalaadoor", sum := "c5c2866b6b81ace444f084f755e9f9a42559063847cf024399f44b5faec11cb1", func := "sigil/sigillaw10.Fp12Products", spec := "fp12Products", inPlace := ["math/bits.Add64", "math/bits.Sub64"], unfollowed := true, recurses := true, named := ["sigil/fp.prime", "sigil/fp.residues", "math/bits.deBruijn64tab", "math/bits.divideError", "math/bits.overflowError"], apart := false, laid := [("math/bits.deBruijn64tab", laid_math_bits_deBruijn64tab), ("sigil/fp.prime", laid_sigil_fp_prime), ("sigil/fp.residues", laid_sigil_fp_residues)], narrowed := true }
def Fp12ProductsUptoSaid : Prop := fp12ProductsUptoRow.holds Tryd.pinned (OpenSpec.upto fp12ProductsSpec)

/-- 'sigillaw10.Fp12Powers', WHERE WHAT IT READS IS OF BULK AT MOST 1048576: true; the input reads as it did. -/
def fp12PowersUptoRow : OpenClaim := { program := "ytiepafeohgpalaadoor", sum := "c5c2866b6b81ace444f084f755e9f9a42559063847cf024399f44b5faec11cb1", func := "sigil/sigillaw10.Fp12Powers", spec := "fp12Powers", inPlace := ["math/bits.Add64", "math/bits.Sub64"], unfollowed := true, recurses := true, named := ["sigil/fp.prime", "sigil/fp.residues", "math/bits.deBruijn64tab", "math/bits.divideError", "math/bits.overflowError"], apart := false, laid := [("math/bits.deBruijn64tab", laid_math_bits_deBruijn64tab), ("sigil/fp.prime", laid_sigil_fp_prime), ("sigil/fp.residues", laid_sigil_fp_residues)], narrowed := true }
def Fp12PowersUptoSaid : Prop := fp12PowersUptoRow.holds Tryd.pinned (OpenSpec.upto fp12PowersSpec)

/-- 'sigillaw10.Fp12Field', WHERE WHAT IT READS IS OF BULK AT MOST 1048576: true; the input reads as it did. -/
def fp12FieldUptoRow : OpenClaim := { program := "ytiepafeohgpalaadoor", sum := "c5c2866b6b81ace444f084f755e9f9a42559063847cf024399f44b5faec11cb1", func := "sigil/sigillaw10.Fp12Field", spec := "fp12Field", inPlace := ["math/bits.Add64", "math/bits.Sub64"], unfollowed := true, recurses := true, named := ["sigil/fp.prime", "sigil/fp.residues", "math/bits.deBruijn64tab"], apart := false, laid := [("math/bits.deBruijn64tab", laid_math_bits_deBruijn64tab), ("sigil/fp.prime", laid_sigil_fp_prime), ("sigil/fp.residues", laid_sigil_fp_residues)], narrowed := true }
def Fp12FieldUptoSaid : Prop := fp12FieldUptoRow.holds Tryd.pinned (OpenSpec.upto fp12FieldSpec)

/-- 'sigillaw10.Fp12Inverse', WHERE WHAT IT READS IS OF BULK AT MOST 1048576: true; the input reads as it did. -/
def fp12InverseUptoRow : OpenClaim := { program := "ytiepafeohgpalaadoor", sum := "c5c2866b6b81ace444f084f755e9f9a42559063847cf024399f44b5faec11cb1", func := "sigil/sigillaw10.Fp12Inverse", spec := "fp12Inverse", inPlace := ["math/bits.Add64", "math/bits.Sub64"], unfollowed := true, recurses := true, named := ["sigil/fp.prime", "sigil/fp.residues", "math/bits.deBruijn64tab"], apart := false, laid := [("math/bits.deBruijn64tab", laid_math_bits_deBruijn64tab), ("sigil/fp.prime", laid_sigil_fp_prime), ("sigil/fp.residues", laid_sigil_fp_residues)], narrowed := true }
def Fp12InverseUptoSaid : Prop := fp12InverseUptoRow.holds Tryd.pinned (OpenSpec.upto fp12InverseSpec)

/-- 'sigillaw10.Fp12Conjugates', WHERE WHAT IT READS IS OF BULK AT MOST 1048576: true; the input reads as it did. -/
def fp12ConjugatesUptoRow : OpenClaim := { program := "ytiepafeohgpalaadoor", sum := "c5c2866b6b81ace444f084f755e9f9a42559063847cf024399f44b5faec11cb1", func := "sigil/sigillaw10.Fp12Conjugates", spec := "fp12Conjugates", inPlace := ["math/bits.Add64", "math/bits.Sub64"], unfollowed := true, recurses := true, named := ["sigil/fp.prime", "sigil/fp.residues", "math/bits.deBruijn64tab"], apart := false, laid := [("math/bits.deBruijn64tab", laid_math_bits_deBruijn64tab), ("sigil/fp.prime", laid_sigil_fp_prime), ("sigil/fp.residues", laid_sigil_fp_residues)], narrowed := true }
def Fp12ConjugatesUptoSaid : Prop := fp12ConjugatesUptoRow.holds Tryd.pinned (OpenSpec.upto fp12ConjugatesSpec)

/-- 'sigillaw10.Fp12Adds', WHERE WHAT IT READS IS OF BULK AT MOST 1048576: true; the input reads as it did. -/
def fp12AddsUptoRow : OpenClaim := { program := "ytiepafeohgpalaadoor", sum := "c5c2866b6b81ace444f084f755e9f9a42559063847cf024399f44b5faec11cb1", func := "sigil/sigillaw10.Fp12Adds", spec := "fp12Adds", inPlace := ["math/bits.Add64", "math/bits.Sub64"], unfollowed := true, recurses := true, named := ["sigil/fp.prime", "sigil/fp.residues", "math/bits.deBruijn64tab"], apart := false, laid := [("math/bits.deBruijn64tab", laid_math_bits_deBruijn64tab), ("sigil/fp.prime", laid_sigil_fp_prime), ("sigil/fp.residues", laid_sigil_fp_residues)], narrowed := true }
def Fp12AddsUptoSaid : Prop := fp12AddsUptoRow.holds Tryd.pinned (OpenSpec.upto fp12AddsSpec)

/-- 'sigillaw10.Fp12Within', WHERE WHAT IT READS IS OF BULK AT MOST 1048576: true; the input reads as it did. -/
def fp12WithinUptoRow : OpenClaim := { program := "ytiepafeohgpalaadoor", sum := "c5c2866b6b81ace444f084f755e9f9a42559063847cf024399f44b5faec11cb1", func := "sigil/sigillaw10.Fp12Within", spec := "fp12Within", inPlace := ["math/bits.Add64", "math/bits.Sub64"], unfollowed := true, recurses := true, named := ["sigil/fp.prime", "sigil/fp.residues", "math/bits.deBruijn64tab"], apart := false, laid := [("math/bits.deBruijn64tab", laid_math_bits_deBruijn64tab), ("sigil/fp.prime", laid_sigil_fp_prime), ("sigil/fp.residues", laid_sigil_fp_residues)], narrowed := true }
def Fp12WithinUptoSaid : Prop := fp12WithinUptoRow.holds Tryd.pinned (OpenSpec.upto fp12WithinSpec)

end Rows
end Go.Proofs.YtiepafeohgpalaaDoor
