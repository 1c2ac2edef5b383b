/-
  No cell of these rows narrows 'for every input' (looked for: loops, veiled, ifaces, maps, wideKeys, modest, calm, conditions, laid).
  DERIVED. THE GIVEN ROWS OF THIS SEAT. 5 by the template 'for every input the law returns true; each argument reads behind the call as it read before'; 0 by the template 'total and deterministic' (their statements: YtkjbfkhiijnemaaTotals.lean).
  GIVEN WITH THE SEED: the statements are not yours to turn. If you find one false, say at which input.
  Laid BY PROGRAM, IN A SANDBOX (cutbox-rows.mjs): the forced cells as the released guide's own fill.sh prints them over the translation cfe3faf6712ddb49… (all of the seat's roots in one cut). By AI agents, Wed Nov 11 2026. No macro, syntax, notation, axiom, sorry.
-/
import Derived.Test.YtkjbfkhiijnemaaChecked
import GoSem.Claim
import GoSem.ClaimJoined
import GoSem.ClaimMapViews
import Derived.JoinedTies
import Derived.KernelRfl
namespace Go.Proofs.Ytkjbfkhiijnemaa
/- THE CELL 'sum', in the pinned program and in every row, IS THE sha256 OF THE DUMP (.gsa) THAT YtkjbfkhiijnemaaProg.lean LOADS. Nothing in Lean hashes anything: it is a label: what it is worth is what the hold of that sum in a sandbox is worth. -/
noncomputable def Try.pinned : Pinned := { name := "ytkjbfkhiijnemaa", sum := "cfe3faf6712ddb49155d528c89567e0feea77cf7344ee72df1279a8a3de3b84a", checked := Try.checked }
namespace Rows
def none {H : Type} : Left H := { results := [], args := [] }

/-- 'sigillaw02.HkdfNames': WHATEVER THE INPUT: true; the input reads as it did. -/
def hkdfNamesSpec : ChangeSpec := { name := "hkdfNames", fn := fun _ => fun
  | [] => { results := [.lit (.bool true)], args := [] }
  | _ => none }
def hkdfNamesRow : OpenClaim := { program := "ytkjbfkhiijnemaa", sum := "cfe3faf6712ddb49155d528c89567e0feea77cf7344ee72df1279a8a3de3b84a", func := "sigil/sigillaw02.HkdfNames", spec := "hkdfNames", unfollowed := true, recurses := true, apart := false }
def HkdfNamesSaid : Prop := hkdfNamesRow.holds Try.pinned (OpenSpec.ofChange hkdfNamesSpec)

/-- ITS FALSE NEIGHBOUR: 'it returns false'. Refute it at one input. -/
def hkdfNamesWrong : ChangeSpec := { name := "hkdfNames", fn := fun _ => fun
  | [] => { results := [.lit (.bool false)], args := [] }
  | _ => none }
def HkdfNamesWrongFalsely : Prop := hkdfNamesRow.holds Try.pinned (OpenSpec.ofChange hkdfNamesWrong)

/-- 'sigillaw02.HkdfTells': WHATEVER THE INPUT: true; the input reads as it did. -/
def hkdfTellsSpec : ChangeSpec := { name := "hkdfTells", fn := fun _ => fun
  | [d1, d2, d3] => { results := [.lit (.bool true)], args := [d1, d2, d3] }
  | _ => none }
def hkdfTellsRow : OpenClaim := { program := "ytkjbfkhiijnemaa", sum := "cfe3faf6712ddb49155d528c89567e0feea77cf7344ee72df1279a8a3de3b84a", func := "sigil/sigillaw02.HkdfTells", spec := "hkdfTells", unfollowed := true, recurses := true, apart := false }
def HkdfTellsSaid : Prop := hkdfTellsRow.holds Try.pinned (OpenSpec.ofChange hkdfTellsSpec)

/-- ITS FALSE NEIGHBOUR: 'it returns false'. Refute it at one input. -/
def hkdfTellsWrong : ChangeSpec := { name := "hkdfTells", fn := fun _ => fun
  | [d1, d2, d3] => { results := [.lit (.bool false)], args := [d1, d2, d3] }
  | _ => none }
def HkdfTellsWrongFalsely : Prop := hkdfTellsRow.holds Try.pinned (OpenSpec.ofChange hkdfTellsWrong)

/-- 'sigillaw02.HkdfKeys': WHATEVER THE INPUT: true; the input reads as it did. -/
def hkdfKeysSpec : ChangeSpec := { name := "hkdfKeys", fn := fun _ => fun
  | [d1, d2, d3] => { results := [.lit (.bool true)], args := [d1, d2, d3] }
  | _ => none }
def hkdfKeysRow : OpenClaim := { program := "ytkjbfkhiijnemaa", sum := "cfe3faf6712ddb49155d528c89567e0feea77cf7344ee72df1279a8a3de3b84a", func := "sigil/sigillaw02.HkdfKeys", spec := "hkdfKeys", unfollowed := true, recurses := true, apart := false }
def HkdfKeysSaid : Prop := hkdfKeysRow.holds Try.pinned (OpenSpec.ofChange hkdfKeysSpec)

/-- ITS FALSE NEIGHBOUR: 'it returns false'. Refute it at one input. -/
def hkdfKeysWrong : ChangeSpec := { name := "hkdfKeys", fn := fun _ => fun
  | [d1, d2, d3] => { results := [.lit (.bool false)], args := [d1, d2, d3] }
  | _ => none }
def HkdfKeysWrongFalsely : Prop := hkdfKeysRow.holds Try.pinned (OpenSpec.ofChange hkdfKeysWrong)

/-- 'sigillaw02.HkdfBegins': WHATEVER THE INPUT: true; the input reads as it did. -/
def hkdfBeginsSpec : ChangeSpec := { name := "hkdfBegins", fn := fun _ => fun
  | [d1, d2, d3, d4] => { results := [.lit (.bool true)], args := [d1, d2, d3, d4] }
  | _ => none }
def hkdfBeginsRow : OpenClaim := { program := "ytkjbfkhiijnemaa", sum := "cfe3faf6712ddb49155d528c89567e0feea77cf7344ee72df1279a8a3de3b84a", func := "sigil/sigillaw02.HkdfBegins", spec := "hkdfBegins", unfollowed := true, recurses := true, apart := false }
def HkdfBeginsSaid : Prop := hkdfBeginsRow.holds Try.pinned (OpenSpec.ofChange hkdfBeginsSpec)

/-- ITS FALSE NEIGHBOUR: 'it returns false'. Refute it at one input. -/
def hkdfBeginsWrong : ChangeSpec := { name := "hkdfBegins", fn := fun _ => fun
  | [d1, d2, d3, d4] => { results := [.lit (.bool false)], args := [d1, d2, d3, d4] }
  | _ => none }
def HkdfBeginsWrongFalsely : Prop := hkdfBeginsRow.holds Try.pinned (OpenSpec.ofChange hkdfBeginsWrong)

/-- 'sigillaw02.HkdfChains': WHATEVER THE INPUT: true; the input reads as it did. -/
def hkdfChainsSpec : ChangeSpec := { name := "hkdfChains", fn := fun _ => fun
  | [d1, d2, d3] => { results := [.lit (.bool true)], args := [d1, d2, d3] }
  | _ => none }
def hkdfChainsRow : OpenClaim := { program := "ytkjbfkhiijnemaa", sum := "cfe3faf6712ddb49155d528c89567e0feea77cf7344ee72df1279a8a3de3b84a", func := "sigil/sigillaw02.HkdfChains", spec := "hkdfChains", unfollowed := true, recurses := true, apart := false }
def HkdfChainsSaid : Prop := hkdfChainsRow.holds Try.pinned (OpenSpec.ofChange hkdfChainsSpec)

/-- ITS FALSE NEIGHBOUR: 'it returns false'. Refute it at one input. -/
def hkdfChainsWrong : ChangeSpec := { name := "hkdfChains", fn := fun _ => fun
  | [d1, d2, d3] => { results := [.lit (.bool false)], args := [d1, d2, d3] }
  | _ => none }
def HkdfChainsWrongFalsely : Prop := hkdfChainsRow.holds Try.pinned (OpenSpec.ofChange hkdfChainsWrong)

/- THE SECOND FORM. 'bulk': how many values and letters a reading holds, each counted each time it is reached (what is shared counts as often as it is met; a slice's spare places count too). A statement '..UptoSaid' is the law's where the arguments, and the package variables that the reading takes, are together of bulk at most 1048576: NARROWER than '..Said'. Prove '..Said' where nothing that the law and all that it calls make is longer than what came in: it says more and counts as full. Else prove '..UptoSaid'. A law counts once. -/
mutual
def uptoBulk {H : Type} : DataW H → Nat
  | .lit (.string bytes) => bytes.length + 1
  | .lit _ => 1
  | .nil => 1
  | .ptr d => uptoBulk d + 1
  | .slice elems spare => uptoBulkAll elems + uptoBulkAll spare + 1
  | .agg parts => uptoBulkAll parts + 1
  | .iface _ d => uptoBulk d + 1
  | .map entries => uptoBulkEntries entries + 1
  | .held _ => 1
def uptoBulkAll {H : Type} : List (DataW H) → Nat
  | [] => 0
  | d :: r => uptoBulk d + uptoBulkAll r
def uptoBulkEntries {H : Type} : List (Lit × DataW H) → Nat
  | [] => 0
  | x :: r => uptoBulkEntry x + uptoBulkEntries r
def uptoBulkEntry {H : Type} : Lit × DataW H → Nat
  | (.string bytes, d) => bytes.length + uptoBulk d + 1
  | (_, d) => uptoBulk d + 1
 end
def uptoSmall : (H : Type) → List (DataW H) → Bool := fun _ ds => decide (uptoBulkAll ds ≤ 1048576)
def OpenSpec.upto (s : _root_.Go.ChangeSpec) : _root_.Go.OpenSpec := { _root_.Go.OpenSpec.ofChange s with cond := some uptoSmall }

/-- 'sigillaw02.HkdfNames', WHERE WHAT IT READS IS OF BULK AT MOST 1048576: true; the input reads as it did. -/
def hkdfNamesUptoRow : OpenClaim := { program := "ytkjbfkhiijnemaa", sum := "cfe3faf6712ddb49155d528c89567e0feea77cf7344ee72df1279a8a3de3b84a", func := "sigil/sigillaw02.HkdfNames", spec := "hkdfNames", unfollowed := true, recurses := true, apart := false, narrowed := true }
def HkdfNamesUptoSaid : Prop := hkdfNamesUptoRow.holds Try.pinned (OpenSpec.upto hkdfNamesSpec)

/-- 'sigillaw02.HkdfTells', WHERE WHAT IT READS IS OF BULK AT MOST 1048576: true; the input reads as it did. -/
def hkdfTellsUptoRow : OpenClaim := { program := "ytkjbfkhiijnemaa", sum := "cfe3faf6712ddb49155d528c89567e0feea77cf7344ee72df1279a8a3de3b84a", func := "sigil/sigillaw02.HkdfTells", spec := "hkdfTells", unfollowed := true, recurses := true, apart := false, narrowed := true }
def HkdfTellsUptoSaid : Prop := hkdfTellsUptoRow.holds Try.pinned (OpenSpec.upto hkdfTellsSpec)

/-- 'sigillaw02.HkdfKeys', WHERE WHAT IT READS IS OF BULK AT MOST 1048576: true; the input reads as it did. -/
def hkdfKeysUptoRow : OpenClaim := { program := "ytkjbfkhiijnemaa", sum := "cfe3faf6712ddb49155d528c89567e0feea77cf7344ee72df1279a8a3de3b84a", func := "sigil/sigillaw02.HkdfKeys", spec := "hkdfKeys", unfollowed := true, recurses := true, apart := false, narrowed := true }
def HkdfKeysUptoSaid : Prop := hkdfKeysUptoRow.holds Try.pinned (OpenSpec.upto hkdfKeysSpec)

/-- 'sigillaw02.HkdfBegins', WHERE WHAT IT READS IS OF BULK AT MOST 1048576: true; the input reads as it did. -/
def hkdfBeginsUptoRow : OpenClaim := { program := "ytkjbfkhiijnemaa", sum := "cfe3faf6712ddb49155d528c89567e0feea77cf7344ee72df1279a8a3de3b84a", func := "sigil/sigillaw02.HkdfBegins", spec := "hkdfBegins", unfollowed := true, recurses := true, apart := false, narrowed := true }
def HkdfBeginsUptoSaid : Prop := hkdfBeginsUptoRow.holds Try.pinned (OpenSpec.upto hkdfBeginsSpec)

/-- 'sigillaw02.HkdfChains', WHERE WHAT IT READS IS OF BULK AT MOST 1048576: true; the input reads as it did. -/
def hkdfChainsUptoRow : OpenClaim := { program := "ytkjbfkhiijnemaa", sum := "cfe3faf6712ddb49155d528c89567e0feea77cf7344ee72df1279a8a3de3b84a", func := "sigil/sigillaw02.HkdfChains", spec := "hkdfChains", unfollowed := true, recurses := true, apart := false, narrowed := true }
def HkdfChainsUptoSaid : Prop := hkdfChainsUptoRow.holds Try.pinned (OpenSpec.upto hkdfChainsSpec)

end Rows
end Go.Proofs.Ytkjbfkhiijnemaa
