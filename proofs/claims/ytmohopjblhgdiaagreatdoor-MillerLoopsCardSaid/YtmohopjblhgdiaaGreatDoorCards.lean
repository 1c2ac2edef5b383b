/-
  DERIVED. GIVEN WITH THE SEED: THE CARDS: each row of YtmohopjblhgdiaaGreatDoorRows.lean that lists a variable, with what it lists TIED to the program's text (the seventh form; the later family's looks); each row that meets fmt, with fmt's text TOLD by the authors' own Lean function (tested against real Go, not proved from fmt's source: count such statements apart). THE CARD IS WHAT COUNTS. Prove the row's statement (the work); the ties are given (YtmohopjblhgdiaaGreatDoorTie.lean); close each card by the builder's one call (the guide's Derived/Test/ToyasCard.lean, 'card_holds'). Laid BY PROGRAM, IN A SANDBOX (cutbox-door.mjs). By AI agents, Wed Nov 11 2026. No macro, syntax, notation, axiom, sorry.
-/
import Derived.Test.YtmohopjblhgdiaaGreatDoorRows
import GoSem.ClaimSeven
namespace Go.Proofs.YtmohopjblhgdiaaGreatDoor
namespace Rows

/-- THE TIED CARD OF 'sigillaw15.MillerSteps'. -/
def millerStepsCard : Claim7 := { stood := { row := millerStepsRow, standIns := [], harness := (true, "619173c24ff3c8b47ead267a886cfd10320c75522a5fa8894b9af91fe76fa387"), looks := false }, kinds := [], alts := [], laidByText := true, laidKinds := [.data, .data, .data], laidTests := true, laidLooks := .later }
def MillerStepsCardSaid : Prop := Claim7.holds Tryz.pinned (.plain (OpenSpec.ofChange millerStepsSpec)) millerStepsCard

/-- THE TIED CARD OF 'sigillaw15.MillerLoops'. -/
def millerLoopsCard : Claim7 := { stood := { row := millerLoopsRow, standIns := [], harness := (true, "619173c24ff3c8b47ead267a886cfd10320c75522a5fa8894b9af91fe76fa387"), looks := false }, kinds := [], alts := [], laidByText := true, laidKinds := [.data, .data, .data], laidTests := true, laidLooks := .later }
def MillerLoopsCardSaid : Prop := Claim7.holds Tryz.pinned (.plain (OpenSpec.ofChange millerLoopsSpec)) millerLoopsCard

/-- THE SECOND FORM's CARD OF 'sigillaw15.MillerSteps'. -/
def millerStepsUptoCard : Claim7 := { stood := { row := millerStepsUptoRow, standIns := [], harness := (true, "619173c24ff3c8b47ead267a886cfd10320c75522a5fa8894b9af91fe76fa387"), looks := false }, kinds := [], alts := [], laidByText := true, laidKinds := [.data, .data, .data], laidTests := true, laidLooks := .later }
def MillerStepsUptoCardSaid : Prop := Claim7.holds Tryz.pinned (.plain (OpenSpec.upto millerStepsSpec)) millerStepsUptoCard

/-- THE SECOND FORM's CARD OF 'sigillaw15.MillerLoops'. -/
def millerLoopsUptoCard : Claim7 := { stood := { row := millerLoopsUptoRow, standIns := [], harness := (true, "619173c24ff3c8b47ead267a886cfd10320c75522a5fa8894b9af91fe76fa387"), looks := false }, kinds := [], alts := [], laidByText := true, laidKinds := [.data, .data, .data], laidTests := true, laidLooks := .later }
def MillerLoopsUptoCardSaid : Prop := Claim7.holds Tryz.pinned (.plain (OpenSpec.upto millerLoopsSpec)) millerLoopsUptoCard
end Rows
end Go.Proofs.YtmohopjblhgdiaaGreatDoor
