/-
  No cell of these rows narrows 'for every input' (looked for: loops, veiled, ifaces, maps, wideKeys, modest, calm, conditions, laid).
  DERIVED. THE GIVEN ROWS OF THIS SEAT. 7 by the template 'for every input the law returns true; each argument reads behind the call as it read before'; 0 by the template 'total and deterministic' (their statements: YtnjkmheecmhlcaaTotals.lean).
  GIVEN WITH THE SEED: the statements are not yours to turn. If you find one false, say at which input.
  Laid BY PROGRAM, IN A SANDBOX (cutbox-rows.mjs): the forced cells as the released guide's own fill.sh prints them over the translation 08f136a1a37a02cc… (all of the seat's roots in one cut). By AI agents, Wed Nov 11 2026. No macro, syntax, notation, axiom, sorry.
-/
import Derived.Test.YtnjkmheecmhlcaaChecked
import GoSem.Claim
import GoSem.ClaimJoined
import GoSem.ClaimMapViews
import Derived.JoinedTies
import Derived.KernelRfl
namespace Go.Proofs.Ytnjkmheecmhlcaa
/- THE CELL 'sum', in the pinned program and in every row, IS THE sha256 OF THE DUMP (.gsa) THAT YtnjkmheecmhlcaaProg.lean LOADS. Nothing in Lean hashes anything: it is a label: what it is worth is what the hold of that sum in a sandbox is worth. -/
noncomputable def Try.pinned : Pinned := { name := "ytnjkmheecmhlcaa", sum := "08f136a1a37a02cc3550d58bf71438ff15f6225db9a08c8b154241b4ed6c4c7a", checked := Try.checked }
namespace Rows
def none {H : Type} : Left H := { results := [], args := [] }

/-- 'sigillaw03.LimbNames': WHATEVER THE INPUT: true; the input reads as it did. -/
def limbNamesSpec : ChangeSpec := { name := "limbNames", fn := fun _ => fun
  | [] => { results := [.lit (.bool true)], args := [] }
  | _ => none }
def limbNamesRow : OpenClaim := { program := "ytnjkmheecmhlcaa", sum := "08f136a1a37a02cc3550d58bf71438ff15f6225db9a08c8b154241b4ed6c4c7a", func := "sigil/sigillaw03.LimbNames", spec := "limbNames", inPlace := ["math/bits.Add64", "math/bits.Sub64"], unfollowed := true, recurses := true, named := ["math/bits.divideError", "math/bits.overflowError"], apart := false }
def LimbNamesSaid : Prop := limbNamesRow.holds Try.pinned (OpenSpec.ofChange limbNamesSpec)

/-- ITS FALSE NEIGHBOUR: 'it returns false'. Refute it at one input. -/
def limbNamesWrong : ChangeSpec := { name := "limbNames", fn := fun _ => fun
  | [] => { results := [.lit (.bool false)], args := [] }
  | _ => none }
def LimbNamesWrongFalsely : Prop := limbNamesRow.holds Try.pinned (OpenSpec.ofChange limbNamesWrong)

/-- 'sigillaw03.LimbTells': WHATEVER THE INPUT: true; the input reads as it did. -/
def limbTellsSpec : ChangeSpec := { name := "limbTells", fn := fun _ => fun
  | [d1, d2] => { results := [.lit (.bool true)], args := [d1, d2] }
  | _ => none }
def limbTellsRow : OpenClaim := { program := "ytnjkmheecmhlcaa", sum := "08f136a1a37a02cc3550d58bf71438ff15f6225db9a08c8b154241b4ed6c4c7a", func := "sigil/sigillaw03.LimbTells", spec := "limbTells", inPlace := ["math/bits.Add64", "math/bits.Sub64"], unfollowed := true, recurses := true, named := ["math/bits.divideError", "math/bits.overflowError"], apart := false }
def LimbTellsSaid : Prop := limbTellsRow.holds Try.pinned (OpenSpec.ofChange limbTellsSpec)

/-- ITS FALSE NEIGHBOUR: 'it returns false'. Refute it at one input. -/
def limbTellsWrong : ChangeSpec := { name := "limbTells", fn := fun _ => fun
  | [d1, d2] => { results := [.lit (.bool false)], args := [d1, d2] }
  | _ => none }
def LimbTellsWrongFalsely : Prop := limbTellsRow.holds Try.pinned (OpenSpec.ofChange limbTellsWrong)

/-- 'sigillaw03.LimbOctets': WHATEVER THE INPUT: true; the input reads as it did. -/
def limbOctetsSpec : ChangeSpec := { name := "limbOctets", fn := fun _ => fun
  | [d1, d2, d3] => { results := [.lit (.bool true)], args := [d1, d2, d3] }
  | _ => none }
def limbOctetsRow : OpenClaim := { program := "ytnjkmheecmhlcaa", sum := "08f136a1a37a02cc3550d58bf71438ff15f6225db9a08c8b154241b4ed6c4c7a", func := "sigil/sigillaw03.LimbOctets", spec := "limbOctets", inPlace := ["math/bits.Add64", "math/bits.Sub64"], unfollowed := true, recurses := true, named := ["math/bits.divideError", "math/bits.overflowError"], apart := false }
def LimbOctetsSaid : Prop := limbOctetsRow.holds Try.pinned (OpenSpec.ofChange limbOctetsSpec)

/-- ITS FALSE NEIGHBOUR: 'it returns false'. Refute it at one input. -/
def limbOctetsWrong : ChangeSpec := { name := "limbOctets", fn := fun _ => fun
  | [d1, d2, d3] => { results := [.lit (.bool false)], args := [d1, d2, d3] }
  | _ => none }
def LimbOctetsWrongFalsely : Prop := limbOctetsRow.holds Try.pinned (OpenSpec.ofChange limbOctetsWrong)

/-- 'sigillaw03.LimbBack': WHATEVER THE INPUT: true; the input reads as it did. -/
def limbBackSpec : ChangeSpec := { name := "limbBack", fn := fun _ => fun
  | [d1, d2] => { results := [.lit (.bool true)], args := [d1, d2] }
  | _ => none }
def limbBackRow : OpenClaim := { program := "ytnjkmheecmhlcaa", sum := "08f136a1a37a02cc3550d58bf71438ff15f6225db9a08c8b154241b4ed6c4c7a", func := "sigil/sigillaw03.LimbBack", spec := "limbBack", inPlace := ["math/bits.Add64", "math/bits.Sub64"], unfollowed := true, recurses := true, named := ["math/bits.divideError", "math/bits.overflowError"], apart := false }
def LimbBackSaid : Prop := limbBackRow.holds Try.pinned (OpenSpec.ofChange limbBackSpec)

/-- ITS FALSE NEIGHBOUR: 'it returns false'. Refute it at one input. -/
def limbBackWrong : ChangeSpec := { name := "limbBack", fn := fun _ => fun
  | [d1, d2] => { results := [.lit (.bool false)], args := [d1, d2] }
  | _ => none }
def LimbBackWrongFalsely : Prop := limbBackRow.holds Try.pinned (OpenSpec.ofChange limbBackWrong)

/-- 'sigillaw03.LimbProducts': WHATEVER THE INPUT: true; the input reads as it did. -/
def limbProductsSpec : ChangeSpec := { name := "limbProducts", fn := fun _ => fun
  | [d1, d2, d3] => { results := [.lit (.bool true)], args := [d1, d2, d3] }
  | _ => none }
def limbProductsRow : OpenClaim := { program := "ytnjkmheecmhlcaa", sum := "08f136a1a37a02cc3550d58bf71438ff15f6225db9a08c8b154241b4ed6c4c7a", func := "sigil/sigillaw03.LimbProducts", spec := "limbProducts", inPlace := ["math/bits.Add64", "math/bits.Sub64"], unfollowed := true, recurses := true, named := ["math/bits.divideError", "math/bits.overflowError"], apart := false }
def LimbProductsSaid : Prop := limbProductsRow.holds Try.pinned (OpenSpec.ofChange limbProductsSpec)

/-- ITS FALSE NEIGHBOUR: 'it returns false'. Refute it at one input. -/
def limbProductsWrong : ChangeSpec := { name := "limbProducts", fn := fun _ => fun
  | [d1, d2, d3] => { results := [.lit (.bool false)], args := [d1, d2, d3] }
  | _ => none }
def LimbProductsWrongFalsely : Prop := limbProductsRow.holds Try.pinned (OpenSpec.ofChange limbProductsWrong)

/-- 'sigillaw03.LimbLeft': WHATEVER THE INPUT: true; the input reads as it did. -/
def limbLeftSpec : ChangeSpec := { name := "limbLeft", fn := fun _ => fun
  | [d1, d2, d3] => { results := [.lit (.bool true)], args := [d1, d2, d3] }
  | _ => none }
def limbLeftRow : OpenClaim := { program := "ytnjkmheecmhlcaa", sum := "08f136a1a37a02cc3550d58bf71438ff15f6225db9a08c8b154241b4ed6c4c7a", func := "sigil/sigillaw03.LimbLeft", spec := "limbLeft", inPlace := ["math/bits.Add64", "math/bits.Sub64"], unfollowed := true, recurses := true, named := ["math/bits.divideError", "math/bits.overflowError"], apart := false }
def LimbLeftSaid : Prop := limbLeftRow.holds Try.pinned (OpenSpec.ofChange limbLeftSpec)

/-- ITS FALSE NEIGHBOUR: 'it returns false'. Refute it at one input. -/
def limbLeftWrong : ChangeSpec := { name := "limbLeft", fn := fun _ => fun
  | [d1, d2, d3] => { results := [.lit (.bool false)], args := [d1, d2, d3] }
  | _ => none }
def LimbLeftWrongFalsely : Prop := limbLeftRow.holds Try.pinned (OpenSpec.ofChange limbLeftWrong)

/-- 'sigillaw03.LimbOwn': WHATEVER THE INPUT: true; the input reads as it did. -/
def limbOwnSpec : ChangeSpec := { name := "limbOwn", fn := fun _ => fun
  | [d1, d2] => { results := [.lit (.bool true)], args := [d1, d2] }
  | _ => none }
def limbOwnRow : OpenClaim := { program := "ytnjkmheecmhlcaa", sum := "08f136a1a37a02cc3550d58bf71438ff15f6225db9a08c8b154241b4ed6c4c7a", func := "sigil/sigillaw03.LimbOwn", spec := "limbOwn", inPlace := ["math/bits.Add64", "math/bits.Sub64"], unfollowed := true, recurses := true, named := ["math/bits.divideError", "math/bits.overflowError"], apart := false }
def LimbOwnSaid : Prop := limbOwnRow.holds Try.pinned (OpenSpec.ofChange limbOwnSpec)

/-- ITS FALSE NEIGHBOUR: 'it returns false'. Refute it at one input. -/
def limbOwnWrong : ChangeSpec := { name := "limbOwn", fn := fun _ => fun
  | [d1, d2] => { results := [.lit (.bool false)], args := [d1, d2] }
  | _ => none }
def LimbOwnWrongFalsely : Prop := limbOwnRow.holds Try.pinned (OpenSpec.ofChange limbOwnWrong)

/- THE SECOND FORM. 'bulk': how many values and letters a reading holds, each counted each time it is reached (what is shared counts as often as it is met; a slice's spare places count too). A statement '..UptoSaid' is the law's where the arguments, and the package variables that the reading takes, are together of bulk at most 1048576: NARROWER than '..Said'. Prove '..Said' where nothing that the law and all that it calls make is longer than what came in: it says more and counts as full. Else prove '..UptoSaid'. A law counts once. -/
mutual
def uptoBulk {H : Type} : DataW H → Nat
  | .lit (.string bytes) => bytes.length + 1
  | .lit _ => 1
  | .nil => 1
  | .ptr d => uptoBulk d + 1
  | .slice elems spare => uptoBulkAll elems + uptoBulkAll spare + 1
  | .agg parts => uptoBulkAll parts + 1
  | .iface _ d => uptoBulk d + 1
  | .map entries => uptoBulkEntries entries + 1
  | .held _ => 1
def uptoBulkAll {H : Type} : List (DataW H) → Nat
  | [] => 0
  | d :: r => uptoBulk d + uptoBulkAll r
def uptoBulkEntries {H : Type} : List (Lit × DataW H) → Nat
  | [] => 0
  | x :: r => uptoBulkEntry x + uptoBulkEntries r
def uptoBulkEntry {H : Type} : Lit × DataW H → Nat
  | (.string bytes, d) => bytes.length + uptoBulk d + 1
  | (_, d) => uptoBulk d + 1
 end
def uptoSmall : (H : Type) → List (DataW H) → Bool := fun _ ds => decide (uptoBulkAll ds ≤ 1048576)
def OpenSpec.upto (s : _root_.Go.ChangeSpec) : _root_.Go.OpenSpec := { _root_.Go.OpenSpec.ofChange s with cond := some uptoSmall }

/-- 'sigillaw03.LimbNames', WHERE WHAT IT READS IS OF BULK AT MOST 1048576: true; the input reads as it did. -/
def limbNamesUptoRow : OpenClaim := { program := "ytnjkmheecmhlcaa", sum := "08f136a1a37a02cc3550d58bf71438ff15f6225db9a08c8b154241b4ed6c4c7a", func := "sigil/sigillaw03.LimbNames", spec := "limbNames", inPlace := ["math/bits.Add64", "math/bits.Sub64"], unfollowed := true, recurses := true, named := ["math/bits.divideError", "math/bits.overflowError"], apart := false, narrowed := true }
def LimbNamesUptoSaid : Prop := limbNamesUptoRow.holds Try.pinned (OpenSpec.upto limbNamesSpec)

/-- 'sigillaw03.LimbTells', WHERE WHAT IT READS IS OF BULK AT MOST 1048576: true; the input reads as it did. -/
def limbTellsUptoRow : OpenClaim := { program := "ytnjkmheecmhlcaa", sum := "08f136a1a37a02cc3550d58bf71438ff15f6225db9a08c8b154241b4ed6c4c7a", func := "sigil/sigillaw03.LimbTells", spec := "limbTells", inPlace := ["math/bits.Add64", "math/bits.Sub64"], unfollowed := true, recurses := true, named := ["math/bits.divideError", "math/bits.overflowError"], apart := false, narrowed := true }
def LimbTellsUptoSaid : Prop := limbTellsUptoRow.holds Try.pinned (OpenSpec.upto limbTellsSpec)

/-- 'sigillaw03.LimbOctets', WHERE WHAT IT READS IS OF BULK AT MOST 1048576: true; the input reads as it did. -/
def limbOctetsUptoRow : OpenClaim := { program := "ytnjkmheecmhlcaa", sum := "08f136a1a37a02cc3550d58bf71438ff15f6225db9a08c8b154241b4ed6c4c7a", func := "sigil/sigillaw03.LimbOctets", spec := "limbOctets", inPlace := ["math/bits.Add64", "math/bits.Sub64"], unfollowed := true, recurses := true, named := ["math/bits.divideError", "math/bits.overflowError"], apart := false, narrowed := true }
def LimbOctetsUptoSaid : Prop := limbOctetsUptoRow.holds Try.pinned (OpenSpec.upto limbOctetsSpec)

/-- 'sigillaw03.LimbBack', WHERE WHAT IT READS IS OF BULK AT MOST 1048576: true; the input reads as it did. -/
def limbBackUptoRow : OpenClaim := { program := "ytnjkmheecmhlcaa", sum := "08f136a1a37a02cc3550d58bf71438ff15f6225db9a08c8b154241b4ed6c4c7a", func := "sigil/sigillaw03.LimbBack", spec := "limbBack", inPlace := ["math/bits.Add64", "math/bits.Sub64"], unfollowed := true, recurses := true, named := ["math/bits.divideError", "math/bits.overflowError"], apart := false, narrowed := true }
def LimbBackUptoSaid : Prop := limbBackUptoRow.holds Try.pinned (OpenSpec.upto limbBackSpec)

/-- 'sigillaw03.LimbProducts', WHERE WHAT IT READS IS OF BULK AT MOST 1048576: true; the input reads as it did. -/
def limbProductsUptoRow : OpenClaim := { program := "ytnjkmheecmhlcaa", sum := "08f136a1a37a02cc3550d58bf71438ff15f6225db9a08c8b154241b4ed6c4c7a", func := "sigil/sigillaw03.LimbProducts", spec := "limbProducts", inPlace := ["math/bits.Add64", "math/bits.Sub64"], unfollowed := true, recurses := true, named := ["math/bits.divideError", "math/bits.overflowError"], apart := false, narrowed := true }
def LimbProductsUptoSaid : Prop := limbProductsUptoRow.holds Try.pinned (OpenSpec.upto limbProductsSpec)

/-- 'sigillaw03.LimbLeft', WHERE WHAT IT READS IS OF BULK AT MOST 1048576: true; the input reads as it did. -/
def limbLeftUptoRow : OpenClaim := { program := "ytnjkmheecmhlcaa", sum := "08f136a1a37a02cc3550d58bf71438ff15f6225db9a08c8b154241b4ed6c4c7a", func := "sigil/sigillaw03.LimbLeft", spec := "limbLeft", inPlace := ["math/bits.Add64", "math/bits.Sub64"], unfollowed := true, recurses := true, named := ["math/bits.divideError", "math/bits.overflowError"], apart := false, narrowed := true }
def LimbLeftUptoSaid : Prop := limbLeftUptoRow.holds Try.pinned (OpenSpec.upto limbLeftSpec)

/-- 'sigillaw03.LimbOwn', WHERE WHAT IT READS IS OF BULK AT MOST 1048576: true; the input reads as it did. -/
def limbOwnUptoRow : OpenClaim := { program := "ytnjkmheecmhlcaa", sum := "08f136a1a37a02cc3550d58bf71438ff15f6225db9a08c8b154241b4ed6c4c7a", func := "sigil/sigillaw03.LimbOwn", spec := "limbOwn", inPlace := ["math/bits.Add64", "math/bits.Sub64"], unfollowed := true, recurses := true, named := ["math/bits.divideError", "math/bits.overflowError"], apart := false, narrowed := true }
def LimbOwnUptoSaid : Prop := limbOwnUptoRow.holds Try.pinned (OpenSpec.upto limbOwnSpec)

end Rows
end Go.Proofs.Ytnjkmheecmhlcaa
