/-
  NARROWER THAN 'FOR EVERY INPUT', by the rows' own cells (each row's printed sentence says how): FpNames: laid · FpSums: laid · FpProducts: laid · FpPowers: laid · FpOctets: laid · FpField: laid · FpUndoes: laid · FpBelow: laid · FpFermat: laid · FpBack: laid · FprootTells: laid · FprootBack: laid · FprootOne: laid · FprootProducts: laid · FprootSides: laid.
  DERIVED. THE GIVEN ROWS OF THIS SEAT. 15 by the template 'for every input the law returns true; each argument reads behind the call as it read before'; 0 by the template 'total and deterministic' (their statements: YtpkfknmpegieaaaDoorTotals.lean).
  GIVEN WITH THE SEED: the statements are not yours to turn. If you find one false, say at which input.
  Laid BY PROGRAM, IN A SANDBOX (cutbox-rows.mjs): the forced cells as the released guide's own fill.sh prints them over the translation 8e3bee74d4de755f… (all of the seat's roots in one cut). By AI agents, Wed Nov 11 2026. No macro, syntax, notation, axiom, sorry.
-/
import Derived.Test.YtpkfknmpegieaaaDoorChecked
import GoSem.Claim
import GoSem.ClaimJoined
import GoSem.ClaimMapViews
import Derived.JoinedTies
import Derived.KernelRfl
namespace Go.Proofs.YtpkfknmpegieaaaDoor
/- THE CELL 'sum', in the pinned program and in every row, IS THE sha256 OF THE DUMP (.gsa) THAT YtpkfknmpegieaaaDoorProg.lean LOADS. Nothing in Lean hashes anything: it is a label: what it is worth is what the hold of that sum in a sandbox is worth. -/
noncomputable def Tryd.pinned : Pinned := { name := "ytpkfknmpegieaaadoor", sum := "8e3bee74d4de755f761924ce85978e1a02fc8a5fec94ad1b56cbbf194e50262d", checked := Tryd.checked }
namespace Rows
def none {H : Type} : Left H := { results := [], args := [] }

/- WHAT THE LISTED PACKAGE-LEVEL VARIABLES READ AS WHEN THE CALL BEGINS. Each datum BY PROGRAM (the guide's laid-datum.mjs) off the statement by which the dump's own 'gosem.cut.vars' lays the variable. In a bare row this is a premise. The card (YtpkfknmpegieaaaDoorCards.lean) ties it to the program's text. -/
def laid_math_bits_deBruijn64tab {H : Type} : DataW H := .agg [.lit (.int .u8 0), .lit (.int .u8 1), .lit (.int .u8 56), .lit (.int .u8 2), .lit (.int .u8 57), .lit (.int .u8 49), .lit (.int .u8 28), .lit (.int .u8 3), .lit (.int .u8 61), .lit (.int .u8 58), .lit (.int .u8 42), .lit (.int .u8 50), .lit (.int .u8 38), .lit (.int .u8 29), .lit (.int .u8 17), .lit (.int .u8 4), .lit (.int .u8 62), .lit (.int .u8 47), .lit (.int .u8 59), .lit (.int .u8 36), .lit (.int .u8 45), .lit (.int .u8 43), .lit (.int .u8 51), .lit (.int .u8 22), .lit (.int .u8 53), .lit (.int .u8 39), .lit (.int .u8 33), .lit (.int .u8 30), .lit (.int .u8 24), .lit (.int .u8 18), .lit (.int .u8 12), .lit (.int .u8 5), .lit (.int .u8 63), .lit (.int .u8 55), .lit (.int .u8 48), .lit (.int .u8 27), .lit (.int .u8 60), .lit (.int .u8 41), .lit (.int .u8 37), .lit (.int .u8 16), .lit (.int .u8 46), .lit (.int .u8 35), .lit (.int .u8 44), .lit (.int .u8 21), .lit (.int .u8 52), .lit (.int .u8 32), .lit (.int .u8 23), .lit (.int .u8 11), .lit (.int .u8 54), .lit (.int .u8 26), .lit (.int .u8 40), .lit (.int .u8 15), .lit (.int .u8 34), .lit (.int .u8 20), .lit (.int .u8 31), .lit (.int .u8 10), .lit (.int .u8 25), .lit (.int .u8 14), .lit (.int .u8 19), .lit (.int .u8 9), .lit (.int .u8 13), .lit (.int .u8 8), .lit (.int .u8 7), .lit (.int .u8 6)]
def laid_sigil_fp_prime {H : Type} : DataW H := .agg [.lit (.int .u64 13402431016077863595), .lit (.int .u64 2210141511517208575), .lit (.int .u64 7435674573564081700), .lit (.int .u64 7239337960414712511), .lit (.int .u64 5412103778470702295), .lit (.int .u64 1873798617647539866)]
def laid_sigil_fp_residues {H : Type} : DataW H := .agg [.agg [.lit (.int .u64 8505329371266088957), .lit (.int .u64 17002214543764226050), .lit (.int .u64 6865905132761471162), .lit (.int .u64 8632934651105793861), .lit (.int .u64 6631298214892334189), .lit (.int .u64 1582556514881692819)], .agg [.lit (.int .u64 4807590280750076774), .lit (.int .u64 8612159356199394243), .lit (.int .u64 12878354973820563945), .lit (.int .u64 2337167537087690866), .lit (.int .u64 6431483094484234427), .lit (.int .u64 293241525500371865)], .agg [.lit (.int .u64 10843886736844221597), .lit (.int .u64 4986109583520628558), .lit (.int .u64 9383303180058691654), .lit (.int .u64 1580741160401819599), .lit (.int .u64 18066133864166594236), .lit (.int .u64 201357114324440772)], .agg [.lit (.int .u64 11396969636769438951), .lit (.int .u64 14906441553275738803), .lit (.int .u64 11575976719427520033), .lit (.int .u64 16041729168491046160), .lit (.int .u64 17227550989889470529), .lit (.int .u64 1634297007776406087)], .agg [.lit (.int .u64 530084278580445711), .lit (.int .u64 4523507806283684619), .lit (.int .u64 1624132434792508366), .lit (.int .u64 9756551939738585554), .lit (.int .u64 1581692023382530096), .lit (.int .u64 1123129913263140485)], .agg [.lit (.int .u64 18197539513313378263), .lit (.int .u64 5220802458584164551), .lit (.int .u64 14995588168058310184), .lit (.int .u64 2582428486095855617), .lit (.int .u64 11648352368840172979), .lit (.int .u64 145533648938993496)]]

/-- 'sigillaw04.FpNames': WHATEVER THE INPUT: true; the input reads as it did. -/
def fpNamesSpec : ChangeSpec := { name := "fpNames", fn := fun _ => fun
  | [] => { results := [.lit (.bool true)], args := [] }
  | _ => none }
def fpNamesRow : OpenClaim := { program := "ytpkfknmpegieaaadoor", sum := "8e3bee74d4de755f761924ce85978e1a02fc8a5fec94ad1b56cbbf194e50262d", func := "sigil/sigillaw04.FpNames", spec := "fpNames", inPlace := ["math/bits.Add64", "math/bits.Sub64"], unfollowed := true, recurses := true, named := ["sigil/fp.prime", "math/bits.deBruijn64tab", "sigil/fp.residues"], apart := false, laid := [("math/bits.deBruijn64tab", laid_math_bits_deBruijn64tab), ("sigil/fp.prime", laid_sigil_fp_prime), ("sigil/fp.residues", laid_sigil_fp_residues)] }
def FpNamesSaid : Prop := fpNamesRow.holds Tryd.pinned (OpenSpec.ofChange fpNamesSpec)

/-- ITS FALSE NEIGHBOUR: 'it returns false'. Refute it at one input. -/
def fpNamesWrong : ChangeSpec := { name := "fpNames", fn := fun _ => fun
  | [] => { results := [.lit (.bool false)], args := [] }
  | _ => none }
def FpNamesWrongFalsely : Prop := fpNamesRow.holds Tryd.pinned (OpenSpec.ofChange fpNamesWrong)

/-- 'sigillaw04.FpSums': WHATEVER THE INPUT: true; the input reads as it did. -/
def fpSumsSpec : ChangeSpec := { name := "fpSums", fn := fun _ => fun
  | [d1, d2] => { results := [.lit (.bool true)], args := [d1, d2] }
  | _ => none }
def fpSumsRow : OpenClaim := { program := "ytpkfknmpegieaaadoor", sum := "8e3bee74d4de755f761924ce85978e1a02fc8a5fec94ad1b56cbbf194e50262d", func := "sigil/sigillaw04.FpSums", spec := "fpSums", inPlace := ["math/bits.Add64", "math/bits.Sub64"], unfollowed := true, recurses := true, named := ["sigil/fp.prime", "math/bits.deBruijn64tab", "sigil/fp.residues"], apart := false, laid := [("math/bits.deBruijn64tab", laid_math_bits_deBruijn64tab), ("sigil/fp.prime", laid_sigil_fp_prime), ("sigil/fp.residues", laid_sigil_fp_residues)] }
def FpSumsSaid : Prop := fpSumsRow.holds Tryd.pinned (OpenSpec.ofChange fpSumsSpec)

/-- ITS FALSE NEIGHBOUR: 'it returns false'. Refute it at one input. -/
def fpSumsWrong : ChangeSpec := { name := "fpSums", fn := fun _ => fun
  | [d1, d2] => { results := [.lit (.bool false)], args := [d1, d2] }
  | _ => none }
def FpSumsWrongFalsely : Prop := fpSumsRow.holds Tryd.pinned (OpenSpec.ofChange fpSumsWrong)

/-- 'sigillaw04.FpProducts': WHATEVER THE INPUT: true; the input reads as it did. -/
def fpProductsSpec : ChangeSpec := { name := "fpProducts", fn := fun _ => fun
  | [d1, d2] => { results := [.lit (.bool true)], args := [d1, d2] }
  | _ => none }
def fpProductsRow : OpenClaim := { program := "ytpkfknmpegieaaadoor", sum := "8e3bee74d4de755f761924ce85978e1a02fc8a5fec94ad1b56cbbf194e50262d", func := "sigil/sigillaw04.FpProducts", spec := "fpProducts", inPlace := ["math/bits.Add64", "math/bits.Sub64"], unfollowed := true, recurses := true, named := ["sigil/fp.prime", "math/bits.deBruijn64tab", "sigil/fp.residues", "math/bits.divideError", "math/bits.overflowError"], apart := false, laid := [("math/bits.deBruijn64tab", laid_math_bits_deBruijn64tab), ("sigil/fp.prime", laid_sigil_fp_prime), ("sigil/fp.residues", laid_sigil_fp_residues)] }
def FpProductsSaid : Prop := fpProductsRow.holds Tryd.pinned (OpenSpec.ofChange fpProductsSpec)

/-- ITS FALSE NEIGHBOUR: 'it returns false'. Refute it at one input. -/
def fpProductsWrong : ChangeSpec := { name := "fpProducts", fn := fun _ => fun
  | [d1, d2] => { results := [.lit (.bool false)], args := [d1, d2] }
  | _ => none }
def FpProductsWrongFalsely : Prop := fpProductsRow.holds Tryd.pinned (OpenSpec.ofChange fpProductsWrong)

/-- 'sigillaw04.FpPowers': WHATEVER THE INPUT: true; the input reads as it did. -/
def fpPowersSpec : ChangeSpec := { name := "fpPowers", fn := fun _ => fun
  | [d1, d2, d3] => { results := [.lit (.bool true)], args := [d1, d2, d3] }
  | _ => none }
def fpPowersRow : OpenClaim := { program := "ytpkfknmpegieaaadoor", sum := "8e3bee74d4de755f761924ce85978e1a02fc8a5fec94ad1b56cbbf194e50262d", func := "sigil/sigillaw04.FpPowers", spec := "fpPowers", inPlace := ["math/bits.Add64", "math/bits.Sub64"], unfollowed := true, recurses := true, named := ["sigil/fp.prime", "math/bits.deBruijn64tab", "sigil/fp.residues", "math/bits.divideError", "math/bits.overflowError"], apart := false, laid := [("math/bits.deBruijn64tab", laid_math_bits_deBruijn64tab), ("sigil/fp.prime", laid_sigil_fp_prime), ("sigil/fp.residues", laid_sigil_fp_residues)] }
def FpPowersSaid : Prop := fpPowersRow.holds Tryd.pinned (OpenSpec.ofChange fpPowersSpec)

/-- ITS FALSE NEIGHBOUR: 'it returns false'. Refute it at one input. -/
def fpPowersWrong : ChangeSpec := { name := "fpPowers", fn := fun _ => fun
  | [d1, d2, d3] => { results := [.lit (.bool false)], args := [d1, d2, d3] }
  | _ => none }
def FpPowersWrongFalsely : Prop := fpPowersRow.holds Tryd.pinned (OpenSpec.ofChange fpPowersWrong)

/-- 'sigillaw04.FpOctets': WHATEVER THE INPUT: true; the input reads as it did. -/
def fpOctetsSpec : ChangeSpec := { name := "fpOctets", fn := fun _ => fun
  | [d1, d2] => { results := [.lit (.bool true)], args := [d1, d2] }
  | _ => none }
def fpOctetsRow : OpenClaim := { program := "ytpkfknmpegieaaadoor", sum := "8e3bee74d4de755f761924ce85978e1a02fc8a5fec94ad1b56cbbf194e50262d", func := "sigil/sigillaw04.FpOctets", spec := "fpOctets", inPlace := ["math/bits.Add64", "math/bits.Sub64"], unfollowed := true, recurses := true, named := ["sigil/fp.prime", "math/bits.deBruijn64tab", "sigil/fp.residues", "math/bits.divideError", "math/bits.overflowError"], apart := false, laid := [("math/bits.deBruijn64tab", laid_math_bits_deBruijn64tab), ("sigil/fp.prime", laid_sigil_fp_prime), ("sigil/fp.residues", laid_sigil_fp_residues)] }
def FpOctetsSaid : Prop := fpOctetsRow.holds Tryd.pinned (OpenSpec.ofChange fpOctetsSpec)

/-- ITS FALSE NEIGHBOUR: 'it returns false'. Refute it at one input. -/
def fpOctetsWrong : ChangeSpec := { name := "fpOctets", fn := fun _ => fun
  | [d1, d2] => { results := [.lit (.bool false)], args := [d1, d2] }
  | _ => none }
def FpOctetsWrongFalsely : Prop := fpOctetsRow.holds Tryd.pinned (OpenSpec.ofChange fpOctetsWrong)

/-- 'sigillaw04.FpField': WHATEVER THE INPUT: true; the input reads as it did. -/
def fpFieldSpec : ChangeSpec := { name := "fpField", fn := fun _ => fun
  | [d1, d2, d3] => { results := [.lit (.bool true)], args := [d1, d2, d3] }
  | _ => none }
def fpFieldRow : OpenClaim := { program := "ytpkfknmpegieaaadoor", sum := "8e3bee74d4de755f761924ce85978e1a02fc8a5fec94ad1b56cbbf194e50262d", func := "sigil/sigillaw04.FpField", spec := "fpField", inPlace := ["math/bits.Add64", "math/bits.Sub64"], unfollowed := true, recurses := true, named := ["sigil/fp.prime", "math/bits.deBruijn64tab", "sigil/fp.residues"], apart := false, laid := [("math/bits.deBruijn64tab", laid_math_bits_deBruijn64tab), ("sigil/fp.prime", laid_sigil_fp_prime), ("sigil/fp.residues", laid_sigil_fp_residues)] }
def FpFieldSaid : Prop := fpFieldRow.holds Tryd.pinned (OpenSpec.ofChange fpFieldSpec)

/-- ITS FALSE NEIGHBOUR: 'it returns false'. Refute it at one input. -/
def fpFieldWrong : ChangeSpec := { name := "fpField", fn := fun _ => fun
  | [d1, d2, d3] => { results := [.lit (.bool false)], args := [d1, d2, d3] }
  | _ => none }
def FpFieldWrongFalsely : Prop := fpFieldRow.holds Tryd.pinned (OpenSpec.ofChange fpFieldWrong)

/-- 'sigillaw04.FpUndoes': WHATEVER THE INPUT: true; the input reads as it did. -/
def fpUndoesSpec : ChangeSpec := { name := "fpUndoes", fn := fun _ => fun
  | [d1, d2] => { results := [.lit (.bool true)], args := [d1, d2] }
  | _ => none }
def fpUndoesRow : OpenClaim := { program := "ytpkfknmpegieaaadoor", sum := "8e3bee74d4de755f761924ce85978e1a02fc8a5fec94ad1b56cbbf194e50262d", func := "sigil/sigillaw04.FpUndoes", spec := "fpUndoes", inPlace := ["math/bits.Add64", "math/bits.Sub64"], unfollowed := true, recurses := true, named := ["sigil/fp.prime", "math/bits.deBruijn64tab", "sigil/fp.residues"], apart := false, laid := [("math/bits.deBruijn64tab", laid_math_bits_deBruijn64tab), ("sigil/fp.prime", laid_sigil_fp_prime), ("sigil/fp.residues", laid_sigil_fp_residues)] }
def FpUndoesSaid : Prop := fpUndoesRow.holds Tryd.pinned (OpenSpec.ofChange fpUndoesSpec)

/-- ITS FALSE NEIGHBOUR: 'it returns false'. Refute it at one input. -/
def fpUndoesWrong : ChangeSpec := { name := "fpUndoes", fn := fun _ => fun
  | [d1, d2] => { results := [.lit (.bool false)], args := [d1, d2] }
  | _ => none }
def FpUndoesWrongFalsely : Prop := fpUndoesRow.holds Tryd.pinned (OpenSpec.ofChange fpUndoesWrong)

/-- 'sigillaw04.FpBelow': WHATEVER THE INPUT: true; the input reads as it did. -/
def fpBelowSpec : ChangeSpec := { name := "fpBelow", fn := fun _ => fun
  | [d1, d2] => { results := [.lit (.bool true)], args := [d1, d2] }
  | _ => none }
def fpBelowRow : OpenClaim := { program := "ytpkfknmpegieaaadoor", sum := "8e3bee74d4de755f761924ce85978e1a02fc8a5fec94ad1b56cbbf194e50262d", func := "sigil/sigillaw04.FpBelow", spec := "fpBelow", inPlace := ["math/bits.Add64", "math/bits.Sub64"], unfollowed := true, recurses := true, named := ["sigil/fp.prime", "math/bits.deBruijn64tab", "sigil/fp.residues"], apart := false, laid := [("math/bits.deBruijn64tab", laid_math_bits_deBruijn64tab), ("sigil/fp.prime", laid_sigil_fp_prime), ("sigil/fp.residues", laid_sigil_fp_residues)] }
def FpBelowSaid : Prop := fpBelowRow.holds Tryd.pinned (OpenSpec.ofChange fpBelowSpec)

/-- ITS FALSE NEIGHBOUR: 'it returns false'. Refute it at one input. -/
def fpBelowWrong : ChangeSpec := { name := "fpBelow", fn := fun _ => fun
  | [d1, d2] => { results := [.lit (.bool false)], args := [d1, d2] }
  | _ => none }
def FpBelowWrongFalsely : Prop := fpBelowRow.holds Tryd.pinned (OpenSpec.ofChange fpBelowWrong)

/-- 'sigillaw04.FpFermat': WHATEVER THE INPUT: true; the input reads as it did. -/
def fpFermatSpec : ChangeSpec := { name := "fpFermat", fn := fun _ => fun
  | [d1, d2, d3] => { results := [.lit (.bool true)], args := [d1, d2, d3] }
  | _ => none }
def fpFermatRow : OpenClaim := { program := "ytpkfknmpegieaaadoor", sum := "8e3bee74d4de755f761924ce85978e1a02fc8a5fec94ad1b56cbbf194e50262d", func := "sigil/sigillaw04.FpFermat", spec := "fpFermat", inPlace := ["math/bits.Add64", "math/bits.Sub64"], unfollowed := true, recurses := true, named := ["sigil/fp.prime", "math/bits.deBruijn64tab", "sigil/fp.residues", "math/bits.divideError", "math/bits.overflowError"], apart := false, laid := [("math/bits.deBruijn64tab", laid_math_bits_deBruijn64tab), ("sigil/fp.prime", laid_sigil_fp_prime), ("sigil/fp.residues", laid_sigil_fp_residues)] }
def FpFermatSaid : Prop := fpFermatRow.holds Tryd.pinned (OpenSpec.ofChange fpFermatSpec)

/-- ITS FALSE NEIGHBOUR: 'it returns false'. Refute it at one input. -/
def fpFermatWrong : ChangeSpec := { name := "fpFermat", fn := fun _ => fun
  | [d1, d2, d3] => { results := [.lit (.bool false)], args := [d1, d2, d3] }
  | _ => none }
def FpFermatWrongFalsely : Prop := fpFermatRow.holds Tryd.pinned (OpenSpec.ofChange fpFermatWrong)

/-- 'sigillaw04.FpBack': WHATEVER THE INPUT: true; the input reads as it did. -/
def fpBackSpec : ChangeSpec := { name := "fpBack", fn := fun _ => fun
  | [d1, d2] => { results := [.lit (.bool true)], args := [d1, d2] }
  | _ => none }
def fpBackRow : OpenClaim := { program := "ytpkfknmpegieaaadoor", sum := "8e3bee74d4de755f761924ce85978e1a02fc8a5fec94ad1b56cbbf194e50262d", func := "sigil/sigillaw04.FpBack", spec := "fpBack", inPlace := ["math/bits.Add64", "math/bits.Sub64"], unfollowed := true, recurses := true, named := ["sigil/fp.prime", "math/bits.deBruijn64tab", "sigil/fp.residues"], apart := false, laid := [("math/bits.deBruijn64tab", laid_math_bits_deBruijn64tab), ("sigil/fp.prime", laid_sigil_fp_prime), ("sigil/fp.residues", laid_sigil_fp_residues)] }
def FpBackSaid : Prop := fpBackRow.holds Tryd.pinned (OpenSpec.ofChange fpBackSpec)

/-- ITS FALSE NEIGHBOUR: 'it returns false'. Refute it at one input. -/
def fpBackWrong : ChangeSpec := { name := "fpBack", fn := fun _ => fun
  | [d1, d2] => { results := [.lit (.bool false)], args := [d1, d2] }
  | _ => none }
def FpBackWrongFalsely : Prop := fpBackRow.holds Tryd.pinned (OpenSpec.ofChange fpBackWrong)

/-- 'sigillaw05.FprootTells': WHATEVER THE INPUT: true; the input reads as it did. -/
def fprootTellsSpec : ChangeSpec := { name := "fprootTells", fn := fun _ => fun
  | [d] => { results := [.lit (.bool true)], args := [d] }
  | _ => none }
def fprootTellsRow : OpenClaim := { program := "ytpkfknmpegieaaadoor", sum := "8e3bee74d4de755f761924ce85978e1a02fc8a5fec94ad1b56cbbf194e50262d", func := "sigil/sigillaw05.FprootTells", spec := "fprootTells", inPlace := ["math/bits.Add64", "math/bits.Sub64"], unfollowed := true, recurses := true, named := ["sigil/fp.prime", "math/bits.divideError", "math/bits.overflowError", "sigil/fp.residues"], apart := false, laid := [("sigil/fp.prime", laid_sigil_fp_prime), ("sigil/fp.residues", laid_sigil_fp_residues)] }
def FprootTellsSaid : Prop := fprootTellsRow.holds Tryd.pinned (OpenSpec.ofChange fprootTellsSpec)

/-- ITS FALSE NEIGHBOUR: 'it returns false'. Refute it at one input. -/
def fprootTellsWrong : ChangeSpec := { name := "fprootTells", fn := fun _ => fun
  | [d] => { results := [.lit (.bool false)], args := [d] }
  | _ => none }
def FprootTellsWrongFalsely : Prop := fprootTellsRow.holds Tryd.pinned (OpenSpec.ofChange fprootTellsWrong)

/-- 'sigillaw05.FprootBack': WHATEVER THE INPUT: true; the input reads as it did. -/
def fprootBackSpec : ChangeSpec := { name := "fprootBack", fn := fun _ => fun
  | [d] => { results := [.lit (.bool true)], args := [d] }
  | _ => none }
def fprootBackRow : OpenClaim := { program := "ytpkfknmpegieaaadoor", sum := "8e3bee74d4de755f761924ce85978e1a02fc8a5fec94ad1b56cbbf194e50262d", func := "sigil/sigillaw05.FprootBack", spec := "fprootBack", inPlace := ["math/bits.Add64", "math/bits.Sub64"], unfollowed := true, recurses := true, named := ["sigil/fp.prime", "math/bits.divideError", "math/bits.overflowError", "sigil/fp.residues"], apart := false, laid := [("sigil/fp.prime", laid_sigil_fp_prime), ("sigil/fp.residues", laid_sigil_fp_residues)] }
def FprootBackSaid : Prop := fprootBackRow.holds Tryd.pinned (OpenSpec.ofChange fprootBackSpec)

/-- ITS FALSE NEIGHBOUR: 'it returns false'. Refute it at one input. -/
def fprootBackWrong : ChangeSpec := { name := "fprootBack", fn := fun _ => fun
  | [d] => { results := [.lit (.bool false)], args := [d] }
  | _ => none }
def FprootBackWrongFalsely : Prop := fprootBackRow.holds Tryd.pinned (OpenSpec.ofChange fprootBackWrong)

/-- 'sigillaw05.FprootOne': WHATEVER THE INPUT: true; the input reads as it did. -/
def fprootOneSpec : ChangeSpec := { name := "fprootOne", fn := fun _ => fun
  | [d] => { results := [.lit (.bool true)], args := [d] }
  | _ => none }
def fprootOneRow : OpenClaim := { program := "ytpkfknmpegieaaadoor", sum := "8e3bee74d4de755f761924ce85978e1a02fc8a5fec94ad1b56cbbf194e50262d", func := "sigil/sigillaw05.FprootOne", spec := "fprootOne", inPlace := ["math/bits.Add64", "math/bits.Sub64"], unfollowed := true, recurses := true, named := ["sigil/fp.prime", "math/bits.divideError", "math/bits.overflowError", "sigil/fp.residues"], apart := false, laid := [("sigil/fp.prime", laid_sigil_fp_prime), ("sigil/fp.residues", laid_sigil_fp_residues)] }
def FprootOneSaid : Prop := fprootOneRow.holds Tryd.pinned (OpenSpec.ofChange fprootOneSpec)

/-- ITS FALSE NEIGHBOUR: 'it returns false'. Refute it at one input. -/
def fprootOneWrong : ChangeSpec := { name := "fprootOne", fn := fun _ => fun
  | [d] => { results := [.lit (.bool false)], args := [d] }
  | _ => none }
def FprootOneWrongFalsely : Prop := fprootOneRow.holds Tryd.pinned (OpenSpec.ofChange fprootOneWrong)

/-- 'sigillaw05.FprootProducts': WHATEVER THE INPUT: true; the input reads as it did. -/
def fprootProductsSpec : ChangeSpec := { name := "fprootProducts", fn := fun _ => fun
  | [d1, d2] => { results := [.lit (.bool true)], args := [d1, d2] }
  | _ => none }
def fprootProductsRow : OpenClaim := { program := "ytpkfknmpegieaaadoor", sum := "8e3bee74d4de755f761924ce85978e1a02fc8a5fec94ad1b56cbbf194e50262d", func := "sigil/sigillaw05.FprootProducts", spec := "fprootProducts", inPlace := ["math/bits.Add64", "math/bits.Sub64"], unfollowed := true, recurses := true, named := ["sigil/fp.prime", "math/bits.divideError", "math/bits.overflowError", "sigil/fp.residues"], apart := false, laid := [("sigil/fp.prime", laid_sigil_fp_prime), ("sigil/fp.residues", laid_sigil_fp_residues)] }
def FprootProductsSaid : Prop := fprootProductsRow.holds Tryd.pinned (OpenSpec.ofChange fprootProductsSpec)

/-- ITS FALSE NEIGHBOUR: 'it returns false'. Refute it at one input. -/
def fprootProductsWrong : ChangeSpec := { name := "fprootProducts", fn := fun _ => fun
  | [d1, d2] => { results := [.lit (.bool false)], args := [d1, d2] }
  | _ => none }
def FprootProductsWrongFalsely : Prop := fprootProductsRow.holds Tryd.pinned (OpenSpec.ofChange fprootProductsWrong)

/-- 'sigillaw05.FprootSides': WHATEVER THE INPUT: true; the input reads as it did. -/
def fprootSidesSpec : ChangeSpec := { name := "fprootSides", fn := fun _ => fun
  | [d] => { results := [.lit (.bool true)], args := [d] }
  | _ => none }
def fprootSidesRow : OpenClaim := { program := "ytpkfknmpegieaaadoor", sum := "8e3bee74d4de755f761924ce85978e1a02fc8a5fec94ad1b56cbbf194e50262d", func := "sigil/sigillaw05.FprootSides", spec := "fprootSides", inPlace := ["math/bits.Add64", "math/bits.Sub64"], unfollowed := true, recurses := true, named := ["sigil/fp.prime", "math/bits.divideError", "math/bits.overflowError", "sigil/fp.residues"], apart := false, laid := [("sigil/fp.prime", laid_sigil_fp_prime), ("sigil/fp.residues", laid_sigil_fp_residues)] }
def FprootSidesSaid : Prop := fprootSidesRow.holds Tryd.pinned (OpenSpec.ofChange fprootSidesSpec)

/-- ITS FALSE NEIGHBOUR: 'it returns false'. Refute it at one input. -/
def fprootSidesWrong : ChangeSpec := { name := "fprootSides", fn := fun _ => fun
  | [d] => { results := [.lit (.bool false)], args := [d] }
  | _ => none }
def FprootSidesWrongFalsely : Prop := fprootSidesRow.holds Tryd.pinned (OpenSpec.ofChange fprootSidesWrong)

/- THE SECOND FORM. 'bulk': how many values and letters a reading holds, each counted each time it is reached (what is shared counts as often as it is met; a slice's spare places count too). A statement '..UptoSaid' is the law's where the arguments, and the package variables that the reading takes, are together of bulk at most 1048576: NARROWER than '..Said'. Prove '..Said' where nothing that the law and all that it calls make is longer than what came in: it says more and counts as full. Else prove '..UptoSaid'. A law counts once. -/
mutual
def uptoBulk {H : Type} : DataW H → Nat
  | .lit (.string bytes) => bytes.length + 1
  | .lit _ => 1
  | .nil => 1
  | .ptr d => uptoBulk d + 1
  | .slice elems spare => uptoBulkAll elems + uptoBulkAll spare + 1
  | .agg parts => uptoBulkAll parts + 1
  | .iface _ d => uptoBulk d + 1
  | .map entries => uptoBulkEntries entries + 1
  | .held _ => 1
def uptoBulkAll {H : Type} : List (DataW H) → Nat
  | [] => 0
  | d :: r => uptoBulk d + uptoBulkAll r
def uptoBulkEntries {H : Type} : List (Lit × DataW H) → Nat
  | [] => 0
  | x :: r => uptoBulkEntry x + uptoBulkEntries r
def uptoBulkEntry {H : Type} : Lit × DataW H → Nat
  | (.string bytes, d) => bytes.length + uptoBulk d + 1
  | (_, d) => uptoBulk d + 1
 end
def uptoSmall : (H : Type) → List (DataW H) → Bool := fun _ ds => decide (uptoBulkAll ds ≤ 1048576)
def OpenSpec.upto (s : _root_.Go.ChangeSpec) : _root_.Go.OpenSpec := { _root_.Go.OpenSpec.ofChange s with cond := some uptoSmall }

/-- 'sigillaw04.FpNames', WHERE WHAT IT READS IS OF BULK AT MOST 1048576: true; the input reads as it did. -/
def fpNamesUptoRow : OpenClaim := { program := "ytpkfknmpegieaaadoor", sum := "8e3bee74d4de755f761924ce85978e1a02fc8a5fec94ad1b56cbbf194e50262d", func := "sigil/sigillaw04.FpNames", spec := "fpNames", inPlace := ["math/bits.Add64", "math/bits.Sub64"], unfollowed := true, recurses := true, named := ["sigil/fp.prime", "math/bits.deBruijn64tab", "sigil/fp.residues"], apart := false, laid := [("math/bits.deBruijn64tab", laid_math_bits_deBruijn64tab), ("sigil/fp.prime", laid_sigil_fp_prime), ("sigil/fp.residues", laid_sigil_fp_residues)], narrowed := true }
def FpNamesUptoSaid : Prop := fpNamesUptoRow.holds Tryd.pinned (OpenSpec.upto fpNamesSpec)

/-- 'sigillaw04.FpSums', WHERE WHAT IT READS IS OF BULK AT MOST 1048576: true; the input reads as it did. -/
def fpSumsUptoRow : OpenClaim := { program := "ytpkfknmpegieaaadoor", sum := "8e3bee74d4de755f761924ce85978e1a02fc8a5fec94ad1b56cbbf194e50262d", func := "sigil/sigillaw04.FpSums", spec := "fpSums", inPlace := ["math/bits.Add64", "math/bits.Sub64"], unfollowed := true, recurses := true, named := ["sigil/fp.prime", "math/bits.deBruijn64tab", "sigil/fp.residues"], apart := false, laid := [("math/bits.deBruijn64tab", laid_math_bits_deBruijn64tab), ("sigil/fp.prime", laid_sigil_fp_prime), ("sigil/fp.residues", laid_sigil_fp_residues)], narrowed := true }
def FpSumsUptoSaid : Prop := fpSumsUptoRow.holds Tryd.pinned (OpenSpec.upto fpSumsSpec)

/-- 'sigillaw04.FpProducts', WHERE WHAT IT READS IS OF BULK AT MOST 1048576: true; the input reads as it did. -/
def fpProductsUptoRow : OpenClaim := { program := "ytpkfknmpegieaaadoor", sum := "8e3bee74d4de755f761924ce85978e1a02fc8a5fec94ad1b56cbbf194e50262d", func := "sigil/sigillaw04.FpProducts", spec := "fpProducts", inPlace := ["math/bits.Add64", "math/bits.Sub64"], unfollowed := true, recurses := true, named := ["sigil/fp.prime", "math/bits.deBruijn64tab", "sigil/fp.residues", "math/bits.divideError", "math/bits.overflowError"], apart := false, laid := [("math/bits.deBruijn64tab", laid_math_bits_deBruijn64tab), ("sigil/fp.prime", laid_sigil_fp_prime), ("sigil/fp.residues", laid_sigil_fp_residues)], narrowed := true }
def FpProductsUptoSaid : Prop := fpProductsUptoRow.holds Tryd.pinned (OpenSpec.upto fpProductsSpec)

/-- 'sigillaw04.FpPowers', WHERE WHAT IT READS IS OF BULK AT MOST 1048576: true; the input reads as it did. -/
def fpPowersUptoRow : OpenClaim := { program := "ytpkfknmpegieaaadoor", sum := "8e3bee74d4de755f761924ce85978e1a02fc8a5fec94ad1b56cbbf194e50262d", func := "sigil/sigillaw04.FpPowers", spec := "fpPowers", inPlace := ["math/bits.Add64", "math/bits.Sub64"], unfollowed := true, recurses := true, named := ["sigil/fp.prime", "math/bits.deBruijn64tab", "sigil/fp.residues", "math/bits.divideError", "math/bits.overflowError"], apart := false, laid := [("math/bits.deBruijn64tab", laid_math_bits_deBruijn64tab), ("sigil/fp.prime", laid_sigil_fp_prime), ("sigil/fp.residues", laid_sigil_fp_residues)], narrowed := true }
def FpPowersUptoSaid : Prop := fpPowersUptoRow.holds Tryd.pinned (OpenSpec.upto fpPowersSpec)

/-- 'sigillaw04.FpOctets', WHERE WHAT IT READS IS OF BULK AT MOST 1048576: true; the input reads as it did. -/
def fpOctetsUptoRow : OpenClaim := { program := "ytpkfknmpegieaaadoor", sum := "8e3bee74d4de755f761924ce85978e1a02fc8a5fec94ad1b56cbbf194e50262d", func := "sigil/sigillaw04.FpOctets", spec := "fpOctets", inPlace := ["math/bits.Add64", "math/bits.Sub64"], unfollowed := true, recurses := true, named := ["sigil/fp.prime", "math/bits.deBruijn64tab", "sigil/fp.residues", "math/bits.divideError", "math/bits.overflowError"], apart := false, laid := [("math/bits.deBruijn64tab", laid_math_bits_deBruijn64tab), ("sigil/fp.prime", laid_sigil_fp_prime), ("sigil/fp.residues", laid_sigil_fp_residues)], narrowed := true }
def FpOctetsUptoSaid : Prop := fpOctetsUptoRow.holds Tryd.pinned (OpenSpec.upto fpOctetsSpec)

/-- 'sigillaw04.FpField', WHERE WHAT IT READS IS OF BULK AT MOST 1048576: true; the input reads as it did. -/
def fpFieldUptoRow : OpenClaim := { program := "ytpkfknmpegieaaadoor", sum := "8e3bee74d4de755f761924ce85978e1a02fc8a5fec94ad1b56cbbf194e50262d", func := "sigil/sigillaw04.FpField", spec := "fpField", inPlace := ["math/bits.Add64", "math/bits.Sub64"], unfollowed := true, recurses := true, named := ["sigil/fp.prime", "math/bits.deBruijn64tab", "sigil/fp.residues"], apart := false, laid := [("math/bits.deBruijn64tab", laid_math_bits_deBruijn64tab), ("sigil/fp.prime", laid_sigil_fp_prime), ("sigil/fp.residues", laid_sigil_fp_residues)], narrowed := true }
def FpFieldUptoSaid : Prop := fpFieldUptoRow.holds Tryd.pinned (OpenSpec.upto fpFieldSpec)

/-- 'sigillaw04.FpUndoes', WHERE WHAT IT READS IS OF BULK AT MOST 1048576: true; the input reads as it did. -/
def fpUndoesUptoRow : OpenClaim := { program := "ytpkfknmpegieaaadoor", sum := "8e3bee74d4de755f761924ce85978e1a02fc8a5fec94ad1b56cbbf194e50262d", func := "sigil/sigillaw04.FpUndoes", spec := "fpUndoes", inPlace := ["math/bits.Add64", "math/bits.Sub64"], unfollowed := true, recurses := true, named := ["sigil/fp.prime", "math/bits.deBruijn64tab", "sigil/fp.residues"], apart := false, laid := [("math/bits.deBruijn64tab", laid_math_bits_deBruijn64tab), ("sigil/fp.prime", laid_sigil_fp_prime), ("sigil/fp.residues", laid_sigil_fp_residues)], narrowed := true }
def FpUndoesUptoSaid : Prop := fpUndoesUptoRow.holds Tryd.pinned (OpenSpec.upto fpUndoesSpec)

/-- 'sigillaw04.FpBelow', WHERE WHAT IT READS IS OF BULK AT MOST 1048576: true; the input reads as it did. -/
def fpBelowUptoRow : OpenClaim := { program := "ytpkfknmpegieaaadoor", sum := "8e3bee74d4de755f761924ce85978e1a02fc8a5fec94ad1b56cbbf194e50262d", func := "sigil/sigillaw04.FpBelow", spec := "fpBelow", inPlace := ["math/bits.Add64", "math/bits.Sub64"], unfollowed := true, recurses := true, named := ["sigil/fp.prime", "math/bits.deBruijn64tab", "sigil/fp.residues"], apart := false, laid := [("math/bits.deBruijn64tab", laid_math_bits_deBruijn64tab), ("sigil/fp.prime", laid_sigil_fp_prime), ("sigil/fp.residues", laid_sigil_fp_residues)], narrowed := true }
def FpBelowUptoSaid : Prop := fpBelowUptoRow.holds Tryd.pinned (OpenSpec.upto fpBelowSpec)

/-- 'sigillaw04.FpFermat', WHERE WHAT IT READS IS OF BULK AT MOST 1048576: true; the input reads as it did. -/
def fpFermatUptoRow : OpenClaim := { program := "ytpkfknmpegieaaadoor", sum := "8e3bee74d4de755f761924ce85978e1a02fc8a5fec94ad1b56cbbf194e50262d", func := "sigil/sigillaw04.FpFermat", spec := "fpFermat", inPlace := ["math/bits.Add64", "math/bits.Sub64"], unfollowed := true, recurses := true, named := ["sigil/fp.prime", "math/bits.deBruijn64tab", "sigil/fp.residues", "math/bits.divideError", "math/bits.overflowError"], apart := false, laid := [("math/bits.deBruijn64tab", laid_math_bits_deBruijn64tab), ("sigil/fp.prime", laid_sigil_fp_prime), ("sigil/fp.residues", laid_sigil_fp_residues)], narrowed := true }
def FpFermatUptoSaid : Prop := fpFermatUptoRow.holds Tryd.pinned (OpenSpec.upto fpFermatSpec)

/-- 'sigillaw04.FpBack', WHERE WHAT IT READS IS OF BULK AT MOST 1048576: true; the input reads as it did. -/
def fpBackUptoRow : OpenClaim := { program := "ytpkfknmpegieaaadoor", sum := "8e3bee74d4de755f761924ce85978e1a02fc8a5fec94ad1b56cbbf194e50262d", func := "sigil/sigillaw04.FpBack", spec := "fpBack", inPlace := ["math/bits.Add64", "math/bits.Sub64"], unfollowed := true, recurses := true, named := ["sigil/fp.prime", "math/bits.deBruijn64tab", "sigil/fp.residues"], apart := false, laid := [("math/bits.deBruijn64tab", laid_math_bits_deBruijn64tab), ("sigil/fp.prime", laid_sigil_fp_prime), ("sigil/fp.residues", laid_sigil_fp_residues)], narrowed := true }
def FpBackUptoSaid : Prop := fpBackUptoRow.holds Tryd.pinned (OpenSpec.upto fpBackSpec)

/-- 'sigillaw05.FprootTells', WHERE WHAT IT READS IS OF BULK AT MOST 1048576: true; the input reads as it did. -/
def fprootTellsUptoRow : OpenClaim := { program := "ytpkfknmpegieaaadoor", sum := "8e3bee74d4de755f761924ce85978e1a02fc8a5fec94ad1b56cbbf194e50262d", func := "sigil/sigillaw05.FprootTells", spec := "fprootTells", inPlace := ["math/bits.Add64", "math/bits.Sub64"], unfollowed := true, recurses := true, named := ["sigil/fp.prime", "math/bits.divideError", "math/bits.overflowError", "sigil/fp.residues"], apart := false, laid := [("sigil/fp.prime", laid_sigil_fp_prime), ("sigil/fp.residues", laid_sigil_fp_residues)], narrowed := true }
def FprootTellsUptoSaid : Prop := fprootTellsUptoRow.holds Tryd.pinned (OpenSpec.upto fprootTellsSpec)

/-- 'sigillaw05.FprootBack', WHERE WHAT IT READS IS OF BULK AT MOST 1048576: true; the input reads as it did. -/
def fprootBackUptoRow : OpenClaim := { program := "ytpkfknmpegieaaadoor", sum := "8e3bee74d4de755f761924ce85978e1a02fc8a5fec94ad1b56cbbf194e50262d", func := "sigil/sigillaw05.FprootBack", spec := "fprootBack", inPlace := ["math/bits.Add64", "math/bits.Sub64"], unfollowed := true, recurses := true, named := ["sigil/fp.prime", "math/bits.divideError", "math/bits.overflowError", "sigil/fp.residues"], apart := false, laid := [("sigil/fp.prime", laid_sigil_fp_prime), ("sigil/fp.residues", laid_sigil_fp_residues)], narrowed := true }
def FprootBackUptoSaid : Prop := fprootBackUptoRow.holds Tryd.pinned (OpenSpec.upto fprootBackSpec)

/-- 'sigillaw05.FprootOne', WHERE WHAT IT READS IS OF BULK AT MOST 1048576: true; the input reads as it did. -/
def fprootOneUptoRow : OpenClaim := { program := "ytpkfknmpegieaaadoor", sum := "8e3bee74d4de755f761924ce85978e1a02fc8a5fec94ad1b56cbbf194e50262d", func := "sigil/sigillaw05.FprootOne", spec := "fprootOne", inPlace := ["math/bits.Add64", "math/bits.Sub64"], unfollowed := true, recurses := true, named := ["sigil/fp.prime", "math/bits.divideError", "math/bits.overflowError", "sigil/fp.residues"], apart := false, laid := [("sigil/fp.prime", laid_sigil_fp_prime), ("sigil/fp.residues", laid_sigil_fp_residues)], narrowed := true }
def FprootOneUptoSaid : Prop := fprootOneUptoRow.holds Tryd.pinned (OpenSpec.upto fprootOneSpec)

/-- 'sigillaw05.FprootProducts', WHERE WHAT IT READS IS OF BULK AT MOST 1048576: true; the input reads as it did. -/
def fprootProductsUptoRow : OpenClaim := { program := "ytpkfknmpegieaaadoor", sum := "8e3bee74d4de755f761924ce85978e1a02fc8a5fec94ad1b56cbbf194e50262d", func := "sigil/sigillaw05.FprootProducts", spec := "fprootProducts", inPlace := ["math/bits.Add64", "math/bits.Sub64"], unfollowed := true, recurses := true, named := ["sigil/fp.prime", "math/bits.divideError", "math/bits.overflowError", "sigil/fp.residues"], apart := false, laid := [("sigil/fp.prime", laid_sigil_fp_prime), ("sigil/fp.residues", laid_sigil_fp_residues)], narrowed := true }
def FprootProductsUptoSaid : Prop := fprootProductsUptoRow.holds Tryd.pinned (OpenSpec.upto fprootProductsSpec)

/-- 'sigillaw05.FprootSides', WHERE WHAT IT READS IS OF BULK AT MOST 1048576: true; the input reads as it did. -/
def fprootSidesUptoRow : OpenClaim := { program := "ytpkfknmpegieaaadoor", sum := "8e3bee74d4de755f761924ce85978e1a02fc8a5fec94ad1b56cbbf194e50262d", func := "sigil/sigillaw05.FprootSides", spec := "fprootSides", inPlace := ["math/bits.Add64", "math/bits.Sub64"], unfollowed := true, recurses := true, named := ["sigil/fp.prime", "math/bits.divideError", "math/bits.overflowError", "sigil/fp.residues"], apart := false, laid := [("sigil/fp.prime", laid_sigil_fp_prime), ("sigil/fp.residues", laid_sigil_fp_residues)], narrowed := true }
def FprootSidesUptoSaid : Prop := fprootSidesUptoRow.holds Tryd.pinned (OpenSpec.upto fprootSidesSpec)

end Rows
end Go.Proofs.YtpkfknmpegieaaaDoor
