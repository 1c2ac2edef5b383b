/-
  No cell of these rows narrows 'for every input' (looked for: loops, veiled, ifaces, maps, wideKeys, modest, calm, conditions, laid).
  DERIVED. THE GIVEN ROWS OF THIS SEAT. 8 by the template 'for every input the law returns true; each argument reads behind the call as it read before'; 0 by the template 'total and deterministic' (their statements: YthaoebamnlmfpaaTotals.lean).
  GIVEN WITH THE SEED: the statements are not yours to turn. If you find one false, say at which input.
  Laid BY PROGRAM, IN A SANDBOX (cutbox-rows.mjs): the forced cells as the released guide's own fill.sh prints them over the translation dfc0c0880ec9ccb0… (all of the seat's roots in one cut). By AI agents, Wed Nov 11 2026. No macro, syntax, notation, axiom, sorry.
-/
import Derived.Test.YthaoebamnlmfpaaChecked
import GoSem.Claim
import GoSem.ClaimJoined
import GoSem.ClaimMapViews
import Derived.JoinedTies
import Derived.KernelRfl
namespace Go.Proofs.Ythaoebamnlmfpaa
/- THE CELL 'sum', in the pinned program and in every row, IS THE sha256 OF THE DUMP (.gsa) THAT YthaoebamnlmfpaaProg.lean LOADS. Nothing in Lean hashes anything: it is a label: what it is worth is what the hold of that sum in a sandbox is worth. -/
noncomputable def Try.pinned : Pinned := { name := "ythaoebamnlmfpaa", sum := "dfc0c0880ec9ccb0b8779c577b7605d64827b0268a0376ec7c4a4178105a381f", checked := Try.checked }
namespace Rows
def none {H : Type} : Left H := { results := [], args := [] }

/-- 'sigillaw06.FrNames': WHATEVER THE INPUT: true; the input reads as it did. -/
def frNamesSpec : ChangeSpec := { name := "frNames", fn := fun _ => fun
  | [] => { results := [.lit (.bool true)], args := [] }
  | _ => none }
def frNamesRow : OpenClaim := { program := "ythaoebamnlmfpaa", sum := "dfc0c0880ec9ccb0b8779c577b7605d64827b0268a0376ec7c4a4178105a381f", func := "sigil/sigillaw06.FrNames", spec := "frNames", inPlace := ["math/bits.Add64", "math/bits.Sub64"], unfollowed := true, recurses := true, named := ["math/bits.divideError", "math/bits.overflowError"], apart := false }
def FrNamesSaid : Prop := frNamesRow.holds Try.pinned (OpenSpec.ofChange frNamesSpec)

/-- ITS FALSE NEIGHBOUR: 'it returns false'. Refute it at one input. -/
def frNamesWrong : ChangeSpec := { name := "frNames", fn := fun _ => fun
  | [] => { results := [.lit (.bool false)], args := [] }
  | _ => none }
def FrNamesWrongFalsely : Prop := frNamesRow.holds Try.pinned (OpenSpec.ofChange frNamesWrong)

/-- 'sigillaw06.FrTells': WHATEVER THE INPUT: true; the input reads as it did. -/
def frTellsSpec : ChangeSpec := { name := "frTells", fn := fun _ => fun
  | [d1, d2] => { results := [.lit (.bool true)], args := [d1, d2] }
  | _ => none }
def frTellsRow : OpenClaim := { program := "ythaoebamnlmfpaa", sum := "dfc0c0880ec9ccb0b8779c577b7605d64827b0268a0376ec7c4a4178105a381f", func := "sigil/sigillaw06.FrTells", spec := "frTells", inPlace := ["math/bits.Add64", "math/bits.Sub64"], unfollowed := true, recurses := true, named := ["math/bits.divideError", "math/bits.overflowError"], apart := false }
def FrTellsSaid : Prop := frTellsRow.holds Try.pinned (OpenSpec.ofChange frTellsSpec)

/-- ITS FALSE NEIGHBOUR: 'it returns false'. Refute it at one input. -/
def frTellsWrong : ChangeSpec := { name := "frTells", fn := fun _ => fun
  | [d1, d2] => { results := [.lit (.bool false)], args := [d1, d2] }
  | _ => none }
def FrTellsWrongFalsely : Prop := frTellsRow.holds Try.pinned (OpenSpec.ofChange frTellsWrong)

/-- 'sigillaw06.FrInverts': WHATEVER THE INPUT: true; the input reads as it did. -/
def frInvertsSpec : ChangeSpec := { name := "frInverts", fn := fun _ => fun
  | [d] => { results := [.lit (.bool true)], args := [d] }
  | _ => none }
def frInvertsRow : OpenClaim := { program := "ythaoebamnlmfpaa", sum := "dfc0c0880ec9ccb0b8779c577b7605d64827b0268a0376ec7c4a4178105a381f", func := "sigil/sigillaw06.FrInverts", spec := "frInverts", inPlace := ["math/bits.Add64", "math/bits.Sub64"], unfollowed := true, recurses := true, named := ["math/bits.divideError", "math/bits.overflowError"], apart := false }
def FrInvertsSaid : Prop := frInvertsRow.holds Try.pinned (OpenSpec.ofChange frInvertsSpec)

/-- ITS FALSE NEIGHBOUR: 'it returns false'. Refute it at one input. -/
def frInvertsWrong : ChangeSpec := { name := "frInverts", fn := fun _ => fun
  | [d] => { results := [.lit (.bool false)], args := [d] }
  | _ => none }
def FrInvertsWrongFalsely : Prop := frInvertsRow.holds Try.pinned (OpenSpec.ofChange frInvertsWrong)

/-- 'sigillaw06.FrOctets': WHATEVER THE INPUT: true; the input reads as it did. -/
def frOctetsSpec : ChangeSpec := { name := "frOctets", fn := fun _ => fun
  | [d1, d2] => { results := [.lit (.bool true)], args := [d1, d2] }
  | _ => none }
def frOctetsRow : OpenClaim := { program := "ythaoebamnlmfpaa", sum := "dfc0c0880ec9ccb0b8779c577b7605d64827b0268a0376ec7c4a4178105a381f", func := "sigil/sigillaw06.FrOctets", spec := "frOctets", inPlace := ["math/bits.Add64", "math/bits.Sub64"], unfollowed := true, recurses := true, named := ["math/bits.divideError", "math/bits.overflowError"], apart := false }
def FrOctetsSaid : Prop := frOctetsRow.holds Try.pinned (OpenSpec.ofChange frOctetsSpec)

/-- ITS FALSE NEIGHBOUR: 'it returns false'. Refute it at one input. -/
def frOctetsWrong : ChangeSpec := { name := "frOctets", fn := fun _ => fun
  | [d1, d2] => { results := [.lit (.bool false)], args := [d1, d2] }
  | _ => none }
def FrOctetsWrongFalsely : Prop := frOctetsRow.holds Try.pinned (OpenSpec.ofChange frOctetsWrong)

/-- 'sigillaw06.FrWindows': WHATEVER THE INPUT: true; the input reads as it did. -/
def frWindowsSpec : ChangeSpec := { name := "frWindows", fn := fun _ => fun
  | [d1, d2] => { results := [.lit (.bool true)], args := [d1, d2] }
  | _ => none }
def frWindowsRow : OpenClaim := { program := "ythaoebamnlmfpaa", sum := "dfc0c0880ec9ccb0b8779c577b7605d64827b0268a0376ec7c4a4178105a381f", func := "sigil/sigillaw06.FrWindows", spec := "frWindows", inPlace := ["math/bits.Add64", "math/bits.Sub64"], unfollowed := true, recurses := true, named := ["math/bits.divideError", "math/bits.overflowError"], apart := false }
def FrWindowsSaid : Prop := frWindowsRow.holds Try.pinned (OpenSpec.ofChange frWindowsSpec)

/-- ITS FALSE NEIGHBOUR: 'it returns false'. Refute it at one input. -/
def frWindowsWrong : ChangeSpec := { name := "frWindows", fn := fun _ => fun
  | [d1, d2] => { results := [.lit (.bool false)], args := [d1, d2] }
  | _ => none }
def FrWindowsWrongFalsely : Prop := frWindowsRow.holds Try.pinned (OpenSpec.ofChange frWindowsWrong)

/-- 'sigillaw06.FrField': WHATEVER THE INPUT: true; the input reads as it did. -/
def frFieldSpec : ChangeSpec := { name := "frField", fn := fun _ => fun
  | [d1, d2, d3] => { results := [.lit (.bool true)], args := [d1, d2, d3] }
  | _ => none }
def frFieldRow : OpenClaim := { program := "ythaoebamnlmfpaa", sum := "dfc0c0880ec9ccb0b8779c577b7605d64827b0268a0376ec7c4a4178105a381f", func := "sigil/sigillaw06.FrField", spec := "frField", inPlace := ["math/bits.Add64", "math/bits.Sub64"], unfollowed := true, recurses := true, named := ["math/bits.divideError", "math/bits.overflowError"], apart := false }
def FrFieldSaid : Prop := frFieldRow.holds Try.pinned (OpenSpec.ofChange frFieldSpec)

/-- ITS FALSE NEIGHBOUR: 'it returns false'. Refute it at one input. -/
def frFieldWrong : ChangeSpec := { name := "frField", fn := fun _ => fun
  | [d1, d2, d3] => { results := [.lit (.bool false)], args := [d1, d2, d3] }
  | _ => none }
def FrFieldWrongFalsely : Prop := frFieldRow.holds Try.pinned (OpenSpec.ofChange frFieldWrong)

/-- 'sigillaw06.FrDigits': WHATEVER THE INPUT: true; the input reads as it did. -/
def frDigitsSpec : ChangeSpec := { name := "frDigits", fn := fun _ => fun
  | [d1, d2] => { results := [.lit (.bool true)], args := [d1, d2] }
  | _ => none }
def frDigitsRow : OpenClaim := { program := "ythaoebamnlmfpaa", sum := "dfc0c0880ec9ccb0b8779c577b7605d64827b0268a0376ec7c4a4178105a381f", func := "sigil/sigillaw06.FrDigits", spec := "frDigits", inPlace := ["math/bits.Add64", "math/bits.Sub64"], unfollowed := true, recurses := true, named := ["math/bits.divideError", "math/bits.overflowError"], apart := false }
def FrDigitsSaid : Prop := frDigitsRow.holds Try.pinned (OpenSpec.ofChange frDigitsSpec)

/-- ITS FALSE NEIGHBOUR: 'it returns false'. Refute it at one input. -/
def frDigitsWrong : ChangeSpec := { name := "frDigits", fn := fun _ => fun
  | [d1, d2] => { results := [.lit (.bool false)], args := [d1, d2] }
  | _ => none }
def FrDigitsWrongFalsely : Prop := frDigitsRow.holds Try.pinned (OpenSpec.ofChange frDigitsWrong)

/-- 'sigillaw06.FrBack': WHATEVER THE INPUT: true; the input reads as it did. -/
def frBackSpec : ChangeSpec := { name := "frBack", fn := fun _ => fun
  | [d1, d2] => { results := [.lit (.bool true)], args := [d1, d2] }
  | _ => none }
def frBackRow : OpenClaim := { program := "ythaoebamnlmfpaa", sum := "dfc0c0880ec9ccb0b8779c577b7605d64827b0268a0376ec7c4a4178105a381f", func := "sigil/sigillaw06.FrBack", spec := "frBack", inPlace := ["math/bits.Add64", "math/bits.Sub64"], unfollowed := true, recurses := true, named := ["math/bits.divideError", "math/bits.overflowError"], apart := false }
def FrBackSaid : Prop := frBackRow.holds Try.pinned (OpenSpec.ofChange frBackSpec)

/-- ITS FALSE NEIGHBOUR: 'it returns false'. Refute it at one input. -/
def frBackWrong : ChangeSpec := { name := "frBack", fn := fun _ => fun
  | [d1, d2] => { results := [.lit (.bool false)], args := [d1, d2] }
  | _ => none }
def FrBackWrongFalsely : Prop := frBackRow.holds Try.pinned (OpenSpec.ofChange frBackWrong)

/- THE SECOND FORM. 'bulk': how many values and letters a reading holds, each counted each time it is reached (what is shared counts as often as it is met; a slice's spare places count too). A statement '..UptoSaid' is the law's where the arguments, and the package variables that the reading takes, are together of bulk at most 1048576: NARROWER than '..Said'. Prove '..Said' where nothing that the law and all that it calls make is longer than what came in: it says more and counts as full. Else prove '..UptoSaid'. A law counts once. -/
mutual
def uptoBulk {H : Type} : DataW H → Nat
  | .lit (.string bytes) => bytes.length + 1
  | .lit _ => 1
  | .nil => 1
  | .ptr d => uptoBulk d + 1
  | .slice elems spare => uptoBulkAll elems + uptoBulkAll spare + 1
  | .agg parts => uptoBulkAll parts + 1
  | .iface _ d => uptoBulk d + 1
  | .map entries => uptoBulkEntries entries + 1
  | .held _ => 1
def uptoBulkAll {H : Type} : List (DataW H) → Nat
  | [] => 0
  | d :: r => uptoBulk d + uptoBulkAll r
def uptoBulkEntries {H : Type} : List (Lit × DataW H) → Nat
  | [] => 0
  | x :: r => uptoBulkEntry x + uptoBulkEntries r
def uptoBulkEntry {H : Type} : Lit × DataW H → Nat
  | (.string bytes, d) => bytes.length + uptoBulk d + 1
  | (_, d) => uptoBulk d + 1
 end
def uptoSmall : (H : Type) → List (DataW H) → Bool := fun _ ds => decide (uptoBulkAll ds ≤ 1048576)
def OpenSpec.upto (s : _root_.Go.ChangeSpec) : _root_.Go.OpenSpec := { _root_.Go.OpenSpec.ofChange s with cond := some uptoSmall }

/-- 'sigillaw06.FrNames', WHERE WHAT IT READS IS OF BULK AT MOST 1048576: true; the input reads as it did. -/
def frNamesUptoRow : OpenClaim := { program := "ythaoebamnlmfpaa", sum := "dfc0c0880ec9ccb0b8779c577b7605d64827b0268a0376ec7c4a4178105a381f", func := "sigil/sigillaw06.FrNames", spec := "frNames", inPlace := ["math/bits.Add64", "math/bits.Sub64"], unfollowed := true, recurses := true, named := ["math/bits.divideError", "math/bits.overflowError"], apart := false, narrowed := true }
def FrNamesUptoSaid : Prop := frNamesUptoRow.holds Try.pinned (OpenSpec.upto frNamesSpec)

/-- 'sigillaw06.FrTells', WHERE WHAT IT READS IS OF BULK AT MOST 1048576: true; the input reads as it did. -/
def frTellsUptoRow : OpenClaim := { program := "ythaoebamnlmfpaa", sum := "dfc0c0880ec9ccb0b8779c577b7605d64827b0268a0376ec7c4a4178105a381f", func := "sigil/sigillaw06.FrTells", spec := "frTells", inPlace := ["math/bits.Add64", "math/bits.Sub64"], unfollowed := true, recurses := true, named := ["math/bits.divideError", "math/bits.overflowError"], apart := false, narrowed := true }
def FrTellsUptoSaid : Prop := frTellsUptoRow.holds Try.pinned (OpenSpec.upto frTellsSpec)

/-- 'sigillaw06.FrInverts', WHERE WHAT IT READS IS OF BULK AT MOST 1048576: true; the input reads as it did. -/
def frInvertsUptoRow : OpenClaim := { program := "ythaoebamnlmfpaa", sum := "dfc0c0880ec9ccb0b8779c577b7605d64827b0268a0376ec7c4a4178105a381f", func := "sigil/sigillaw06.FrInverts", spec := "frInverts", inPlace := ["math/bits.Add64", "math/bits.Sub64"], unfollowed := true, recurses := true, named := ["math/bits.divideError", "math/bits.overflowError"], apart := false, narrowed := true }
def FrInvertsUptoSaid : Prop := frInvertsUptoRow.holds Try.pinned (OpenSpec.upto frInvertsSpec)

/-- 'sigillaw06.FrOctets', WHERE WHAT IT READS IS OF BULK AT MOST 1048576: true; the input reads as it did. -/
def frOctetsUptoRow : OpenClaim := { program := "ythaoebamnlmfpaa", sum := "dfc0c0880ec9ccb0b8779c577b7605d64827b0268a0376ec7c4a4178105a381f", func := "sigil/sigillaw06.FrOctets", spec := "frOctets", inPlace := ["math/bits.Add64", "math/bits.Sub64"], unfollowed := true, recurses := true, named := ["math/bits.divideError", "math/bits.overflowError"], apart := false, narrowed := true }
def FrOctetsUptoSaid : Prop := frOctetsUptoRow.holds Try.pinned (OpenSpec.upto frOctetsSpec)

/-- 'sigillaw06.FrWindows', WHERE WHAT IT READS IS OF BULK AT MOST 1048576: true; the input reads as it did. -/
def frWindowsUptoRow : OpenClaim := { program := "ythaoebamnlmfpaa", sum := "dfc0c0880ec9ccb0b8779c577b7605d64827b0268a0376ec7c4a4178105a381f", func := "sigil/sigillaw06.FrWindows", spec := "frWindows", inPlace := ["math/bits.Add64", "math/bits.Sub64"], unfollowed := true, recurses := true, named := ["math/bits.divideError", "math/bits.overflowError"], apart := false, narrowed := true }
def FrWindowsUptoSaid : Prop := frWindowsUptoRow.holds Try.pinned (OpenSpec.upto frWindowsSpec)

/-- 'sigillaw06.FrField', WHERE WHAT IT READS IS OF BULK AT MOST 1048576: true; the input reads as it did. -/
def frFieldUptoRow : OpenClaim := { program := "ythaoebamnlmfpaa", sum := "dfc0c0880ec9ccb0b8779c577b7605d64827b0268a0376ec7c4a4178105a381f", func := "sigil/sigillaw06.FrField", spec := "frField", inPlace := ["math/bits.Add64", "math/bits.Sub64"], unfollowed := true, recurses := true, named := ["math/bits.divideError", "math/bits.overflowError"], apart := false, narrowed := true }
def FrFieldUptoSaid : Prop := frFieldUptoRow.holds Try.pinned (OpenSpec.upto frFieldSpec)

/-- 'sigillaw06.FrDigits', WHERE WHAT IT READS IS OF BULK AT MOST 1048576: true; the input reads as it did. -/
def frDigitsUptoRow : OpenClaim := { program := "ythaoebamnlmfpaa", sum := "dfc0c0880ec9ccb0b8779c577b7605d64827b0268a0376ec7c4a4178105a381f", func := "sigil/sigillaw06.FrDigits", spec := "frDigits", inPlace := ["math/bits.Add64", "math/bits.Sub64"], unfollowed := true, recurses := true, named := ["math/bits.divideError", "math/bits.overflowError"], apart := false, narrowed := true }
def FrDigitsUptoSaid : Prop := frDigitsUptoRow.holds Try.pinned (OpenSpec.upto frDigitsSpec)

/-- 'sigillaw06.FrBack', WHERE WHAT IT READS IS OF BULK AT MOST 1048576: true; the input reads as it did. -/
def frBackUptoRow : OpenClaim := { program := "ythaoebamnlmfpaa", sum := "dfc0c0880ec9ccb0b8779c577b7605d64827b0268a0376ec7c4a4178105a381f", func := "sigil/sigillaw06.FrBack", spec := "frBack", inPlace := ["math/bits.Add64", "math/bits.Sub64"], unfollowed := true, recurses := true, named := ["math/bits.divideError", "math/bits.overflowError"], apart := false, narrowed := true }
def FrBackUptoSaid : Prop := frBackUptoRow.holds Try.pinned (OpenSpec.upto frBackSpec)

end Rows
end Go.Proofs.Ythaoebamnlmfpaa
