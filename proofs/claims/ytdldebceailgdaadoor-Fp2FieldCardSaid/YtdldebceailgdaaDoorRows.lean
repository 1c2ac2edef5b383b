/-
  NARROWER THAN 'FOR EVERY INPUT', by the rows' own cells (each row's printed sentence says how): Fp2Sums: laid · Fp2Products: laid · Fp2Powers: laid · Fp2Field: laid · Fp2Inverse: laid · Fp2Conjugates: laid · Fp2Frobenius: laid · Fp2Parts: laid.
  DERIVED. THE GIVEN ROWS OF THIS SEAT. 8 by the template 'for every input the law returns true; each argument reads behind the call as it read before'; 0 by the template 'total and deterministic' (their statements: YtdldebceailgdaaDoorTotals.lean).
  GIVEN WITH THE SEED: the statements are not yours to turn. If you find one false, say at which input.
  Laid BY PROGRAM, IN A SANDBOX (cutbox-rows.mjs): the forced cells as the released guide's own fill.sh prints them over the translation b8b420ffae648ca1… (all of the seat's roots in one cut). By AI agents, Wed Nov 11 2026. No macro, syntax, notation, axiom, sorry.
-/
import Derived.Test.YtdldebceailgdaaDoorChecked
import GoSem.Claim
import GoSem.ClaimJoined
import GoSem.ClaimMapViews
import Derived.JoinedTies
import Derived.KernelRfl
namespace Go.Proofs.YtdldebceailgdaaDoor
/- THE CELL 'sum', in the pinned program and in every row, IS THE sha256 OF THE DUMP (.gsa) THAT YtdldebceailgdaaDoorProg.lean LOADS. Nothing in Lean hashes anything: it is a label: what it is worth is what the hold of that sum in a sandbox is worth. -/
noncomputable def Tryd.pinned : Pinned := { name := "ytdldebceailgdaadoor", sum := "b8b420ffae648ca16af1ca1a0ec567597b97ddaca1da66d0427c0c6f83052c75", checked := Tryd.checked }
namespace Rows
def none {H : Type} : Left H := { results := [], args := [] }

/- WHAT THE LISTED PACKAGE-LEVEL VARIABLES READ AS WHEN THE CALL BEGINS. Each datum BY PROGRAM (the guide's laid-datum.mjs) off the statement by which the dump's own 'gosem.cut.vars' lays the variable. In a bare row this is a premise. The card (YtdldebceailgdaaDoorCards.lean) ties it to the program's text. -/
def laid_math_bits_deBruijn64tab {H : Type} : DataW H := .agg [.lit (.int .u8 0), .lit (.int .u8 1), .lit (.int .u8 56), .lit (.int .u8 2), .lit (.int .u8 57), .lit (.int .u8 49), .lit (.int .u8 28), .lit (.int .u8 3), .lit (.int .u8 61), .lit (.int .u8 58), .lit (.int .u8 42), .lit (.int .u8 50), .lit (.int .u8 38), .lit (.int .u8 29), .lit (.int .u8 17), .lit (.int .u8 4), .lit (.int .u8 62), .lit (.int .u8 47), .lit (.int .u8 59), .lit (.int .u8 36), .lit (.int .u8 45), .lit (.int .u8 43), .lit (.int .u8 51), .lit (.int .u8 22), .lit (.int .u8 53), .lit (.int .u8 39), .lit (.int .u8 33), .lit (.int .u8 30), .lit (.int .u8 24), .lit (.int .u8 18), .lit (.int .u8 12), .lit (.int .u8 5), .lit (.int .u8 63), .lit (.int .u8 55), .lit (.int .u8 48), .lit (.int .u8 27), .lit (.int .u8 60), .lit (.int .u8 41), .lit (.int .u8 37), .lit (.int .u8 16), .lit (.int .u8 46), .lit (.int .u8 35), .lit (.int .u8 44), .lit (.int .u8 21), .lit (.int .u8 52), .lit (.int .u8 32), .lit (.int .u8 23), .lit (.int .u8 11), .lit (.int .u8 54), .lit (.int .u8 26), .lit (.int .u8 40), .lit (.int .u8 15), .lit (.int .u8 34), .lit (.int .u8 20), .lit (.int .u8 31), .lit (.int .u8 10), .lit (.int .u8 25), .lit (.int .u8 14), .lit (.int .u8 19), .lit (.int .u8 9), .lit (.int .u8 13), .lit (.int .u8 8), .lit (.int .u8 7), .lit (.int .u8 6)]
def laid_sigil_fp_prime {H : Type} : DataW H := .agg [.lit (.int .u64 13402431016077863595), .lit (.int .u64 2210141511517208575), .lit (.int .u64 7435674573564081700), .lit (.int .u64 7239337960414712511), .lit (.int .u64 5412103778470702295), .lit (.int .u64 1873798617647539866)]
def laid_sigil_fp_residues {H : Type} : DataW H := .agg [.agg [.lit (.int .u64 8505329371266088957), .lit (.int .u64 17002214543764226050), .lit (.int .u64 6865905132761471162), .lit (.int .u64 8632934651105793861), .lit (.int .u64 6631298214892334189), .lit (.int .u64 1582556514881692819)], .agg [.lit (.int .u64 4807590280750076774), .lit (.int .u64 8612159356199394243), .lit (.int .u64 12878354973820563945), .lit (.int .u64 2337167537087690866), .lit (.int .u64 6431483094484234427), .lit (.int .u64 293241525500371865)], .agg [.lit (.int .u64 10843886736844221597), .lit (.int .u64 4986109583520628558), .lit (.int .u64 9383303180058691654), .lit (.int .u64 1580741160401819599), .lit (.int .u64 18066133864166594236), .lit (.int .u64 201357114324440772)], .agg [.lit (.int .u64 11396969636769438951), .lit (.int .u64 14906441553275738803), .lit (.int .u64 11575976719427520033), .lit (.int .u64 16041729168491046160), .lit (.int .u64 17227550989889470529), .lit (.int .u64 1634297007776406087)], .agg [.lit (.int .u64 530084278580445711), .lit (.int .u64 4523507806283684619), .lit (.int .u64 1624132434792508366), .lit (.int .u64 9756551939738585554), .lit (.int .u64 1581692023382530096), .lit (.int .u64 1123129913263140485)], .agg [.lit (.int .u64 18197539513313378263), .lit (.int .u64 5220802458584164551), .lit (.int .u64 14995588168058310184), .lit (.int .u64 2582428486095855617), .lit (.int .u64 11648352368840172979), .lit (.int .u64 145533648938993496)]]

/-- 'sigillaw07.Fp2Sums': WHATEVER THE INPUT: true; the input reads as it did. -/
def fp2SumsSpec : ChangeSpec := { name := "fp2Sums", fn := fun _ => fun
  | [d1, d2, d3] => { results := [.lit (.bool true)], args := [d1, d2, d3] }
  | _ => none }
def fp2SumsRow : OpenClaim := { program := "ytdldebceailgdaadoor", sum := "b8b420ffae648ca16af1ca1a0ec567597b97ddaca1da66d0427c0c6f83052c75", func := "sigil/sigillaw07.Fp2Sums", spec := "fp2Sums", inPlace := ["math/bits.Add64", "math/bits.Sub64"], unfollowed := true, recurses := true, named := ["sigil/fp.residues", "sigil/fp.prime", "math/bits.deBruijn64tab", "math/bits.divideError", "math/bits.overflowError"], apart := false, laid := [("math/bits.deBruijn64tab", laid_math_bits_deBruijn64tab), ("sigil/fp.prime", laid_sigil_fp_prime), ("sigil/fp.residues", laid_sigil_fp_residues)] }
def Fp2SumsSaid : Prop := fp2SumsRow.holds Tryd.pinned (OpenSpec.ofChange fp2SumsSpec)

/-- ITS FALSE NEIGHBOUR: 'it returns false'. Refute it at one input. -/
def fp2SumsWrong : ChangeSpec := { name := "fp2Sums", fn := fun _ => fun
  | [d1, d2, d3] => { results := [.lit (.bool false)], args := [d1, d2, d3] }
  | _ => none }
def Fp2SumsWrongFalsely : Prop := fp2SumsRow.holds Tryd.pinned (OpenSpec.ofChange fp2SumsWrong)

/-- 'sigillaw07.Fp2Products': WHATEVER THE INPUT: true; the input reads as it did. -/
def fp2ProductsSpec : ChangeSpec := { name := "fp2Products", fn := fun _ => fun
  | [d1, d2] => { results := [.lit (.bool true)], args := [d1, d2] }
  | _ => none }
def fp2ProductsRow : OpenClaim := { program := "ytdldebceailgdaadoor", sum := "b8b420ffae648ca16af1ca1a0ec567597b97ddaca1da66d0427c0c6f83052c75", func := "sigil/sigillaw07.Fp2Products", spec := "fp2Products", inPlace := ["math/bits.Add64", "math/bits.Sub64"], unfollowed := true, recurses := true, named := ["sigil/fp.residues", "sigil/fp.prime", "math/bits.deBruijn64tab", "math/bits.divideError", "math/bits.overflowError"], apart := false, laid := [("math/bits.deBruijn64tab", laid_math_bits_deBruijn64tab), ("sigil/fp.prime", laid_sigil_fp_prime), ("sigil/fp.residues", laid_sigil_fp_residues)] }
def Fp2ProductsSaid : Prop := fp2ProductsRow.holds Tryd.pinned (OpenSpec.ofChange fp2ProductsSpec)

/-- ITS FALSE NEIGHBOUR: 'it returns false'. Refute it at one input. -/
def fp2ProductsWrong : ChangeSpec := { name := "fp2Products", fn := fun _ => fun
  | [d1, d2] => { results := [.lit (.bool false)], args := [d1, d2] }
  | _ => none }
def Fp2ProductsWrongFalsely : Prop := fp2ProductsRow.holds Tryd.pinned (OpenSpec.ofChange fp2ProductsWrong)

/-- 'sigillaw07.Fp2Powers': WHATEVER THE INPUT: true; the input reads as it did. -/
def fp2PowersSpec : ChangeSpec := { name := "fp2Powers", fn := fun _ => fun
  | [d1, d2] => { results := [.lit (.bool true)], args := [d1, d2] }
  | _ => none }
def fp2PowersRow : OpenClaim := { program := "ytdldebceailgdaadoor", sum := "b8b420ffae648ca16af1ca1a0ec567597b97ddaca1da66d0427c0c6f83052c75", func := "sigil/sigillaw07.Fp2Powers", spec := "fp2Powers", inPlace := ["math/bits.Add64", "math/bits.Sub64"], unfollowed := true, recurses := true, named := ["sigil/fp.residues", "sigil/fp.prime", "math/bits.deBruijn64tab", "math/bits.divideError", "math/bits.overflowError"], apart := false, laid := [("math/bits.deBruijn64tab", laid_math_bits_deBruijn64tab), ("sigil/fp.prime", laid_sigil_fp_prime), ("sigil/fp.residues", laid_sigil_fp_residues)] }
def Fp2PowersSaid : Prop := fp2PowersRow.holds Tryd.pinned (OpenSpec.ofChange fp2PowersSpec)

/-- ITS FALSE NEIGHBOUR: 'it returns false'. Refute it at one input. -/
def fp2PowersWrong : ChangeSpec := { name := "fp2Powers", fn := fun _ => fun
  | [d1, d2] => { results := [.lit (.bool false)], args := [d1, d2] }
  | _ => none }
def Fp2PowersWrongFalsely : Prop := fp2PowersRow.holds Tryd.pinned (OpenSpec.ofChange fp2PowersWrong)

/-- 'sigillaw07.Fp2Field': WHATEVER THE INPUT: true; the input reads as it did. -/
def fp2FieldSpec : ChangeSpec := { name := "fp2Field", fn := fun _ => fun
  | [d1, d2, d3] => { results := [.lit (.bool true)], args := [d1, d2, d3] }
  | _ => none }
def fp2FieldRow : OpenClaim := { program := "ytdldebceailgdaadoor", sum := "b8b420ffae648ca16af1ca1a0ec567597b97ddaca1da66d0427c0c6f83052c75", func := "sigil/sigillaw07.Fp2Field", spec := "fp2Field", inPlace := ["math/bits.Add64", "math/bits.Sub64"], unfollowed := true, recurses := true, named := ["sigil/fp.residues", "sigil/fp.prime", "math/bits.deBruijn64tab"], apart := false, laid := [("math/bits.deBruijn64tab", laid_math_bits_deBruijn64tab), ("sigil/fp.prime", laid_sigil_fp_prime), ("sigil/fp.residues", laid_sigil_fp_residues)] }
def Fp2FieldSaid : Prop := fp2FieldRow.holds Tryd.pinned (OpenSpec.ofChange fp2FieldSpec)

/-- ITS FALSE NEIGHBOUR: 'it returns false'. Refute it at one input. -/
def fp2FieldWrong : ChangeSpec := { name := "fp2Field", fn := fun _ => fun
  | [d1, d2, d3] => { results := [.lit (.bool false)], args := [d1, d2, d3] }
  | _ => none }
def Fp2FieldWrongFalsely : Prop := fp2FieldRow.holds Tryd.pinned (OpenSpec.ofChange fp2FieldWrong)

/-- 'sigillaw07.Fp2Inverse': WHATEVER THE INPUT: true; the input reads as it did. -/
def fp2InverseSpec : ChangeSpec := { name := "fp2Inverse", fn := fun _ => fun
  | [d1, d2] => { results := [.lit (.bool true)], args := [d1, d2] }
  | _ => none }
def fp2InverseRow : OpenClaim := { program := "ytdldebceailgdaadoor", sum := "b8b420ffae648ca16af1ca1a0ec567597b97ddaca1da66d0427c0c6f83052c75", func := "sigil/sigillaw07.Fp2Inverse", spec := "fp2Inverse", inPlace := ["math/bits.Add64", "math/bits.Sub64"], unfollowed := true, recurses := true, named := ["sigil/fp.residues", "sigil/fp.prime", "math/bits.deBruijn64tab"], apart := false, laid := [("math/bits.deBruijn64tab", laid_math_bits_deBruijn64tab), ("sigil/fp.prime", laid_sigil_fp_prime), ("sigil/fp.residues", laid_sigil_fp_residues)] }
def Fp2InverseSaid : Prop := fp2InverseRow.holds Tryd.pinned (OpenSpec.ofChange fp2InverseSpec)

/-- ITS FALSE NEIGHBOUR: 'it returns false'. Refute it at one input. -/
def fp2InverseWrong : ChangeSpec := { name := "fp2Inverse", fn := fun _ => fun
  | [d1, d2] => { results := [.lit (.bool false)], args := [d1, d2] }
  | _ => none }
def Fp2InverseWrongFalsely : Prop := fp2InverseRow.holds Tryd.pinned (OpenSpec.ofChange fp2InverseWrong)

/-- 'sigillaw07.Fp2Conjugates': WHATEVER THE INPUT: true; the input reads as it did. -/
def fp2ConjugatesSpec : ChangeSpec := { name := "fp2Conjugates", fn := fun _ => fun
  | [d1, d2] => { results := [.lit (.bool true)], args := [d1, d2] }
  | _ => none }
def fp2ConjugatesRow : OpenClaim := { program := "ytdldebceailgdaadoor", sum := "b8b420ffae648ca16af1ca1a0ec567597b97ddaca1da66d0427c0c6f83052c75", func := "sigil/sigillaw07.Fp2Conjugates", spec := "fp2Conjugates", inPlace := ["math/bits.Add64", "math/bits.Sub64"], unfollowed := true, recurses := true, named := ["sigil/fp.residues", "sigil/fp.prime", "math/bits.deBruijn64tab"], apart := false, laid := [("math/bits.deBruijn64tab", laid_math_bits_deBruijn64tab), ("sigil/fp.prime", laid_sigil_fp_prime), ("sigil/fp.residues", laid_sigil_fp_residues)] }
def Fp2ConjugatesSaid : Prop := fp2ConjugatesRow.holds Tryd.pinned (OpenSpec.ofChange fp2ConjugatesSpec)

/-- ITS FALSE NEIGHBOUR: 'it returns false'. Refute it at one input. -/
def fp2ConjugatesWrong : ChangeSpec := { name := "fp2Conjugates", fn := fun _ => fun
  | [d1, d2] => { results := [.lit (.bool false)], args := [d1, d2] }
  | _ => none }
def Fp2ConjugatesWrongFalsely : Prop := fp2ConjugatesRow.holds Tryd.pinned (OpenSpec.ofChange fp2ConjugatesWrong)

/-- 'sigillaw07.Fp2Frobenius': WHATEVER THE INPUT: true; the input reads as it did. -/
def fp2FrobeniusSpec : ChangeSpec := { name := "fp2Frobenius", fn := fun _ => fun
  | [d] => { results := [.lit (.bool true)], args := [d] }
  | _ => none }
def fp2FrobeniusRow : OpenClaim := { program := "ytdldebceailgdaadoor", sum := "b8b420ffae648ca16af1ca1a0ec567597b97ddaca1da66d0427c0c6f83052c75", func := "sigil/sigillaw07.Fp2Frobenius", spec := "fp2Frobenius", inPlace := ["math/bits.Add64", "math/bits.Sub64"], unfollowed := true, recurses := true, named := ["sigil/fp.residues", "sigil/fp.prime", "math/bits.deBruijn64tab"], apart := false, laid := [("math/bits.deBruijn64tab", laid_math_bits_deBruijn64tab), ("sigil/fp.prime", laid_sigil_fp_prime), ("sigil/fp.residues", laid_sigil_fp_residues)] }
def Fp2FrobeniusSaid : Prop := fp2FrobeniusRow.holds Tryd.pinned (OpenSpec.ofChange fp2FrobeniusSpec)

/-- ITS FALSE NEIGHBOUR: 'it returns false'. Refute it at one input. -/
def fp2FrobeniusWrong : ChangeSpec := { name := "fp2Frobenius", fn := fun _ => fun
  | [d] => { results := [.lit (.bool false)], args := [d] }
  | _ => none }
def Fp2FrobeniusWrongFalsely : Prop := fp2FrobeniusRow.holds Tryd.pinned (OpenSpec.ofChange fp2FrobeniusWrong)

/-- 'sigillaw07.Fp2Parts': WHATEVER THE INPUT: true; the input reads as it did. -/
def fp2PartsSpec : ChangeSpec := { name := "fp2Parts", fn := fun _ => fun
  | [d1, d2] => { results := [.lit (.bool true)], args := [d1, d2] }
  | _ => none }
def fp2PartsRow : OpenClaim := { program := "ytdldebceailgdaadoor", sum := "b8b420ffae648ca16af1ca1a0ec567597b97ddaca1da66d0427c0c6f83052c75", func := "sigil/sigillaw07.Fp2Parts", spec := "fp2Parts", inPlace := ["math/bits.Add64", "math/bits.Sub64"], unfollowed := true, recurses := true, named := ["sigil/fp.residues", "sigil/fp.prime", "math/bits.deBruijn64tab"], apart := false, laid := [("math/bits.deBruijn64tab", laid_math_bits_deBruijn64tab), ("sigil/fp.prime", laid_sigil_fp_prime), ("sigil/fp.residues", laid_sigil_fp_residues)] }
def Fp2PartsSaid : Prop := fp2PartsRow.holds Tryd.pinned (OpenSpec.ofChange fp2PartsSpec)

/-- ITS FALSE NEIGHBOUR: 'it returns false'. Refute it at one input. -/
def fp2PartsWrong : ChangeSpec := { name := "fp2Parts", fn := fun _ => fun
  | [d1, d2] => { results := [.lit (.bool false)], args := [d1, d2] }
  | _ => none }
def Fp2PartsWrongFalsely : Prop := fp2PartsRow.holds Tryd.pinned (OpenSpec.ofChange fp2PartsWrong)

/- THE SECOND FORM. 'bulk': how many values and letters a reading holds, each counted each time it is reached (what is shared counts as often as it is met; a slice's spare places count too). A statement '..UptoSaid' is the law's where the arguments, and the package variables that the reading takes, are together of bulk at most 1048576: NARROWER than '..Said'. Prove '..Said' where nothing that the law and all that it calls make is longer than what came in: it says more and counts as full. Else prove '..UptoSaid'. A law counts once. -/
mutual
def uptoBulk {H : Type} : DataW H → Nat
  | .lit (.string bytes) => bytes.length + 1
  | .lit _ => 1
  | .nil => 1
  | .ptr d => uptoBulk d + 1
  | .slice elems spare => uptoBulkAll elems + uptoBulkAll spare + 1
  | .agg parts => uptoBulkAll parts + 1
  | .iface _ d => uptoBulk d + 1
  | .map entries => uptoBulkEntries entries + 1
  | .held _ => 1
def uptoBulkAll {H : Type} : List (DataW H) → Nat
  | [] => 0
  | d :: r => uptoBulk d + uptoBulkAll r
def uptoBulkEntries {H : Type} : List (Lit × DataW H) → Nat
  | [] => 0
  | x :: r => uptoBulkEntry x + uptoBulkEntries r
def uptoBulkEntry {H : Type} : Lit × DataW H → Nat
  | (.string bytes, d) => bytes.length + uptoBulk d + 1
  | (_, d) => uptoBulk d + 1
 end
def uptoSmall : (H : Type) → List (DataW H) → Bool := fun _ ds => decide (uptoBulkAll ds ≤ 1048576)
def OpenSpec.upto (s : _root_.Go.ChangeSpec) : _root_.Go.OpenSpec := { _root_.Go.OpenSpec.ofChange s with cond := some uptoSmall }

/-- 'sigillaw07.Fp2Sums', WHERE WHAT IT READS IS OF BULK AT MOST 1048576: true; the input reads as it did. -/
def fp2SumsUptoRow : OpenClaim := { program := "ytdldebceailgdaadoor", sum := "b8b420ffae648ca16af1ca1a0ec567597b97ddaca1da66d0427c0c6f83052c75", func := "sigil/sigillaw07.Fp2Sums", spec := "fp2Sums", inPlace := ["math/bits.Add64", "math/bits.Sub64"], unfollowed := true, recurses := true, named := ["sigil/fp.residues", "sigil/fp.prime", "math/bits.deBruijn64tab", "math/bits.divideError", "math/bits.overflowError"], apart := false, laid := [("math/bits.deBruijn64tab", laid_math_bits_deBruijn64tab), ("sigil/fp.prime", laid_sigil_fp_prime), ("sigil/fp.residues", laid_sigil_fp_residues)], narrowed := true }
def Fp2SumsUptoSaid : Prop := fp2SumsUptoRow.holds Tryd.pinned (OpenSpec.upto fp2SumsSpec)

/-- 'sigillaw07.Fp2Products', WHERE WHAT IT READS IS OF BULK AT MOST 1048576: true; the input reads as it did. -/
def fp2ProductsUptoRow : OpenClaim := { program := "ytdldebceailgdaadoor", sum := "b8b420ffae648ca16af1ca1a0ec567597b97ddaca1da66d0427c0c6f83052c75", func := "sigil/sigillaw07.Fp2Products", spec := "fp2Products", inPlace := ["math/bits.Add64", "math/bits.Sub64"], unfollowed := true, recurses := true, named := ["sigil/fp.residues", "sigil/fp.prime", "math/bits.deBruijn64tab", "math/bits.divideError", "math/bits.overflowError"], apart := false, laid := [("math/bits.deBruijn64tab", laid_math_bits_deBruijn64tab), ("sigil/fp.prime", laid_sigil_fp_prime), ("sigil/fp.residues", laid_sigil_fp_residues)], narrowed := true }
def Fp2ProductsUptoSaid : Prop := fp2ProductsUptoRow.holds Tryd.pinned (OpenSpec.upto fp2ProductsSpec)

/-- 'sigillaw07.Fp2Powers', WHERE WHAT IT READS IS OF BULK AT MOST 1048576: true; the input reads as it did. -/
def fp2PowersUptoRow : OpenClaim := { program := "ytdldebceailgdaadoor", sum := "b8b420ffae648ca16af1ca1a0ec567597b97ddaca1da66d0427c0c6f83052c75", func := "sigil/sigillaw07.Fp2Powers", spec := "fp2Powers", inPlace := ["math/bits.Add64", "math/bits.Sub64"], unfollowed := true, recurses := true, named := ["sigil/fp.residues", "sigil/fp.prime", "math/bits.deBruijn64tab", "math/bits.divideError", "math/bits.overflowError"], apart := false, laid := [("math/bits.deBruijn64tab", laid_math_bits_deBruijn64tab), ("sigil/fp.prime", laid_sigil_fp_prime), ("sigil/fp.residues", laid_sigil_fp_residues)], narrowed := true }
def Fp2PowersUptoSaid : Prop := fp2PowersUptoRow.holds Tryd.pinned (OpenSpec.upto fp2PowersSpec)

/-- 'sigillaw07.Fp2Field', WHERE WHAT IT READS IS OF BULK AT MOST 1048576: true; the input reads as it did. -/
def fp2FieldUptoRow : OpenClaim := { program := "ytdldebceailgdaadoor", sum := "b8b420ffae648ca16af1ca1a0ec567597b97ddaca1da66d0427c0c6f83052c75", func := "sigil/sigillaw07.Fp2Field", spec := "fp2Field", inPlace := ["math/bits.Add64", "math/bits.Sub64"], unfollowed := true, recurses := true, named := ["sigil/fp.residues", "sigil/fp.prime", "math/bits.deBruijn64tab"], apart := false, laid := [("math/bits.deBruijn64tab", laid_math_bits_deBruijn64tab), ("sigil/fp.prime", laid_sigil_fp_prime), ("sigil/fp.residues", laid_sigil_fp_residues)], narrowed := true }
def Fp2FieldUptoSaid : Prop := fp2FieldUptoRow.holds Tryd.pinned (OpenSpec.upto fp2FieldSpec)

/-- 'sigillaw07.Fp2Inverse', WHERE WHAT IT READS IS OF BULK AT MOST 1048576: true; the input reads as it did. -/
def fp2InverseUptoRow : OpenClaim := { program := "ytdldebceailgdaadoor", sum := "b8b420ffae648ca16af1ca1a0ec567597b97ddaca1da66d0427c0c6f83052c75", func := "sigil/sigillaw07.Fp2Inverse", spec := "fp2Inverse", inPlace := ["math/bits.Add64", "math/bits.Sub64"], unfollowed := true, recurses := true, named := ["sigil/fp.residues", "sigil/fp.prime", "math/bits.deBruijn64tab"], apart := false, laid := [("math/bits.deBruijn64tab", laid_math_bits_deBruijn64tab), ("sigil/fp.prime", laid_sigil_fp_prime), ("sigil/fp.residues", laid_sigil_fp_residues)], narrowed := true }
def Fp2InverseUptoSaid : Prop := fp2InverseUptoRow.holds Tryd.pinned (OpenSpec.upto fp2InverseSpec)

/-- 'sigillaw07.Fp2Conjugates', WHERE WHAT IT READS IS OF BULK AT MOST 1048576: true; the input reads as it did. -/
def fp2ConjugatesUptoRow : OpenClaim := { program := "ytdldebceailgdaadoor", sum := "b8b420ffae648ca16af1ca1a0ec567597b97ddaca1da66d0427c0c6f83052c75", func := "sigil/sigillaw07.Fp2Conjugates", spec := "fp2Conjugates", inPlace := ["math/bits.Add64", "math/bits.Sub64"], unfollowed := true, recurses := true, named := ["sigil/fp.residues", "sigil/fp.prime", "math/bits.deBruijn64tab"], apart := false, laid := [("math/bits.deBruijn64tab", laid_math_bits_deBruijn64tab), ("sigil/fp.prime", laid_sigil_fp_prime), ("sigil/fp.residues", laid_sigil_fp_residues)], narrowed := true }
def Fp2ConjugatesUptoSaid : Prop := fp2ConjugatesUptoRow.holds Tryd.pinned (OpenSpec.upto fp2ConjugatesSpec)

/-- 'sigillaw07.Fp2Frobenius', WHERE WHAT IT READS IS OF BULK AT MOST 1048576: true; the input reads as it did. -/
def fp2FrobeniusUptoRow : OpenClaim := { program := "ytdldebceailgdaadoor", sum := "b8b420ffae648ca16af1ca1a0ec567597b97ddaca1da66d0427c0c6f83052c75", func := "sigil/sigillaw07.Fp2Frobenius", spec := "fp2Frobenius", inPlace := ["math/bits.Add64", "math/bits.Sub64"], unfollowed := true, recurses := true, named := ["sigil/fp.residues", "sigil/fp.prime", "math/bits.deBruijn64tab"], apart := false, laid := [("math/bits.deBruijn64tab", laid_math_bits_deBruijn64tab), ("sigil/fp.prime", laid_sigil_fp_prime), ("sigil/fp.residues", laid_sigil_fp_residues)], narrowed := true }
def Fp2FrobeniusUptoSaid : Prop := fp2FrobeniusUptoRow.holds Tryd.pinned (OpenSpec.upto fp2FrobeniusSpec)

/-- 'sigillaw07.Fp2Parts', WHERE WHAT IT READS IS OF BULK AT MOST 1048576: true; the input reads as it did. -/
def fp2PartsUptoRow : OpenClaim := { program := "ytdldebceailgdaadoor", sum := "b8b420ffae648ca16af1ca1a0ec567597b97ddaca1da66d0427c0c6f83052c75", func := "sigil/sigillaw07.Fp2Parts", spec := "fp2Parts", inPlace := ["math/bits.Add64", "math/bits.Sub64"], unfollowed := true, recurses := true, named := ["sigil/fp.residues", "sigil/fp.prime", "math/bits.deBruijn64tab"], apart := false, laid := [("math/bits.deBruijn64tab", laid_math_bits_deBruijn64tab), ("sigil/fp.prime", laid_sigil_fp_prime), ("sigil/fp.residues", laid_sigil_fp_residues)], narrowed := true }
def Fp2PartsUptoSaid : Prop := fp2PartsUptoRow.holds Tryd.pinned (OpenSpec.upto fp2PartsSpec)

end Rows
end Go.Proofs.YtdldebceailgdaaDoor
