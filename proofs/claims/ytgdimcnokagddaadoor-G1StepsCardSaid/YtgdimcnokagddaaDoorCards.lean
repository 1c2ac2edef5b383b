/-
  DERIVED. GIVEN WITH THE SEED: THE CARDS: each row of YtgdimcnokagddaaDoorRows.lean that lists a variable, with what it lists TIED to the program's text (the seventh form; the later family's looks); each row that meets fmt, with fmt's text TOLD by the authors' own Lean function (tested against real Go, not proved from fmt's source: count such statements apart). THE CARD IS WHAT COUNTS. Prove the row's statement (the work); the ties are given (YtgdimcnokagddaaDoorTie.lean); close each card by the builder's one call (the guide's Derived/Test/ToyasCard.lean, 'card_holds'). Laid BY PROGRAM, IN A SANDBOX (cutbox-door.mjs). By AI agents, Wed Nov 11 2026. No macro, syntax, notation, axiom, sorry.
-/
import Derived.Test.YtgdimcnokagddaaDoorRows
import GoSem.ClaimSeven
namespace Go.Proofs.YtgdimcnokagddaaDoor
namespace Rows

/-- THE TIED CARD OF 'sigillaw12.G1Names'. -/
def g1NamesCard : Claim7 := { stood := { row := g1NamesRow, standIns := [], harness := (true, "ffdf46de057f628368875dc481c5a075617d60316045bf5e6d0bfd872599847a"), looks := false }, kinds := [], alts := [], laidByText := true, laidKinds := [.data, .data, .data], laidTests := true, laidLooks := .later }
def G1NamesCardSaid : Prop := Claim7.holds Tryd.pinned (.plain (OpenSpec.ofChange g1NamesSpec)) g1NamesCard

/-- THE TIED CARD OF 'sigillaw12.G1Adds'. -/
def g1AddsCard : Claim7 := { stood := { row := g1AddsRow, standIns := [], harness := (true, "ffdf46de057f628368875dc481c5a075617d60316045bf5e6d0bfd872599847a"), looks := false }, kinds := [], alts := [], laidByText := true, laidKinds := [.data, .data, .data], laidTests := true, laidLooks := .later }
def G1AddsCardSaid : Prop := Claim7.holds Tryd.pinned (.plain (OpenSpec.ofChange g1AddsSpec)) g1AddsCard

/-- THE TIED CARD OF 'sigillaw12.G1Muls'. -/
def g1MulsCard : Claim7 := { stood := { row := g1MulsRow, standIns := [], harness := (true, "ffdf46de057f628368875dc481c5a075617d60316045bf5e6d0bfd872599847a"), looks := false }, kinds := [], alts := [], laidByText := true, laidKinds := [.data, .data, .data], laidTests := true, laidLooks := .later }
def G1MulsCardSaid : Prop := Claim7.holds Tryd.pinned (.plain (OpenSpec.ofChange g1MulsSpec)) g1MulsCard

/-- THE TIED CARD OF 'sigillaw12.G1Sums'. -/
def g1SumsCard : Claim7 := { stood := { row := g1SumsRow, standIns := [], harness := (true, "ffdf46de057f628368875dc481c5a075617d60316045bf5e6d0bfd872599847a"), looks := false }, kinds := [], alts := [], laidByText := true, laidKinds := [.data, .data, .data], laidTests := true, laidLooks := .later }
def G1SumsCardSaid : Prop := Claim7.holds Tryd.pinned (.plain (OpenSpec.ofChange g1SumsSpec)) g1SumsCard

/-- THE TIED CARD OF 'sigillaw12.G1Closed'. -/
def g1ClosedCard : Claim7 := { stood := { row := g1ClosedRow, standIns := [], harness := (true, "ffdf46de057f628368875dc481c5a075617d60316045bf5e6d0bfd872599847a"), looks := false }, kinds := [], alts := [], laidByText := true, laidKinds := [.data, .data, .data], laidTests := true, laidLooks := .later }
def G1ClosedCardSaid : Prop := Claim7.holds Tryd.pinned (.plain (OpenSpec.ofChange g1ClosedSpec)) g1ClosedCard

/-- THE TIED CARD OF 'sigillaw12.G1Brackets'. -/
def g1BracketsCard : Claim7 := { stood := { row := g1BracketsRow, standIns := [], harness := (true, "ffdf46de057f628368875dc481c5a075617d60316045bf5e6d0bfd872599847a"), looks := false }, kinds := [], alts := [], laidByText := true, laidKinds := [.data, .data, .data], laidTests := true, laidLooks := .later }
def G1BracketsCardSaid : Prop := Claim7.holds Tryd.pinned (.plain (OpenSpec.ofChange g1BracketsSpec)) g1BracketsCard

/-- THE TIED CARD OF 'sigillaw12.G1Steps'. -/
def g1StepsCard : Claim7 := { stood := { row := g1StepsRow, standIns := [], harness := (true, "ffdf46de057f628368875dc481c5a075617d60316045bf5e6d0bfd872599847a"), looks := false }, kinds := [], alts := [], laidByText := true, laidKinds := [.data, .data, .data], laidTests := true, laidLooks := .later }
def G1StepsCardSaid : Prop := Claim7.holds Tryd.pinned (.plain (OpenSpec.ofChange g1StepsSpec)) g1StepsCard

/-- THE TIED CARD OF 'sigillaw12.G1Undoes'. -/
def g1UndoesCard : Claim7 := { stood := { row := g1UndoesRow, standIns := [], harness := (true, "ffdf46de057f628368875dc481c5a075617d60316045bf5e6d0bfd872599847a"), looks := false }, kinds := [], alts := [], laidByText := true, laidKinds := [.data, .data, .data], laidTests := true, laidLooks := .later }
def G1UndoesCardSaid : Prop := Claim7.holds Tryd.pinned (.plain (OpenSpec.ofChange g1UndoesSpec)) g1UndoesCard

/-- THE SECOND FORM's CARD OF 'sigillaw12.G1Names'. -/
def g1NamesUptoCard : Claim7 := { stood := { row := g1NamesUptoRow, standIns := [], harness := (true, "ffdf46de057f628368875dc481c5a075617d60316045bf5e6d0bfd872599847a"), looks := false }, kinds := [], alts := [], laidByText := true, laidKinds := [.data, .data, .data], laidTests := true, laidLooks := .later }
def G1NamesUptoCardSaid : Prop := Claim7.holds Tryd.pinned (.plain (OpenSpec.upto g1NamesSpec)) g1NamesUptoCard

/-- THE SECOND FORM's CARD OF 'sigillaw12.G1Adds'. -/
def g1AddsUptoCard : Claim7 := { stood := { row := g1AddsUptoRow, standIns := [], harness := (true, "ffdf46de057f628368875dc481c5a075617d60316045bf5e6d0bfd872599847a"), looks := false }, kinds := [], alts := [], laidByText := true, laidKinds := [.data, .data, .data], laidTests := true, laidLooks := .later }
def G1AddsUptoCardSaid : Prop := Claim7.holds Tryd.pinned (.plain (OpenSpec.upto g1AddsSpec)) g1AddsUptoCard

/-- THE SECOND FORM's CARD OF 'sigillaw12.G1Muls'. -/
def g1MulsUptoCard : Claim7 := { stood := { row := g1MulsUptoRow, standIns := [], harness := (true, "ffdf46de057f628368875dc481c5a075617d60316045bf5e6d0bfd872599847a"), looks := false }, kinds := [], alts := [], laidByText := true, laidKinds := [.data, .data, .data], laidTests := true, laidLooks := .later }
def G1MulsUptoCardSaid : Prop := Claim7.holds Tryd.pinned (.plain (OpenSpec.upto g1MulsSpec)) g1MulsUptoCard

/-- THE SECOND FORM's CARD OF 'sigillaw12.G1Sums'. -/
def g1SumsUptoCard : Claim7 := { stood := { row := g1SumsUptoRow, standIns := [], harness := (true, "ffdf46de057f628368875dc481c5a075617d60316045bf5e6d0bfd872599847a"), looks := false }, kinds := [], alts := [], laidByText := true, laidKinds := [.data, .data, .data], laidTests := true, laidLooks := .later }
def G1SumsUptoCardSaid : Prop := Claim7.holds Tryd.pinned (.plain (OpenSpec.upto g1SumsSpec)) g1SumsUptoCard

/-- THE SECOND FORM's CARD OF 'sigillaw12.G1Closed'. -/
def g1ClosedUptoCard : Claim7 := { stood := { row := g1ClosedUptoRow, standIns := [], harness := (true, "ffdf46de057f628368875dc481c5a075617d60316045bf5e6d0bfd872599847a"), looks := false }, kinds := [], alts := [], laidByText := true, laidKinds := [.data, .data, .data], laidTests := true, laidLooks := .later }
def G1ClosedUptoCardSaid : Prop := Claim7.holds Tryd.pinned (.plain (OpenSpec.upto g1ClosedSpec)) g1ClosedUptoCard

/-- THE SECOND FORM's CARD OF 'sigillaw12.G1Brackets'. -/
def g1BracketsUptoCard : Claim7 := { stood := { row := g1BracketsUptoRow, standIns := [], harness := (true, "ffdf46de057f628368875dc481c5a075617d60316045bf5e6d0bfd872599847a"), looks := false }, kinds := [], alts := [], laidByText := true, laidKinds := [.data, .data, .data], laidTests := true, laidLooks := .later }
def G1BracketsUptoCardSaid : Prop := Claim7.holds Tryd.pinned (.plain (OpenSpec.upto g1BracketsSpec)) g1BracketsUptoCard

/-- THE SECOND FORM's CARD OF 'sigillaw12.G1Steps'. -/
def g1StepsUptoCard : Claim7 := { stood := { row := g1StepsUptoRow, standIns := [], harness := (true, "ffdf46de057f628368875dc481c5a075617d60316045bf5e6d0bfd872599847a"), looks := false }, kinds := [], alts := [], laidByText := true, laidKinds := [.data, .data, .data], laidTests := true, laidLooks := .later }
def G1StepsUptoCardSaid : Prop := Claim7.holds Tryd.pinned (.plain (OpenSpec.upto g1StepsSpec)) g1StepsUptoCard

/-- THE SECOND FORM's CARD OF 'sigillaw12.G1Undoes'. -/
def g1UndoesUptoCard : Claim7 := { stood := { row := g1UndoesUptoRow, standIns := [], harness := (true, "ffdf46de057f628368875dc481c5a075617d60316045bf5e6d0bfd872599847a"), looks := false }, kinds := [], alts := [], laidByText := true, laidKinds := [.data, .data, .data], laidTests := true, laidLooks := .later }
def G1UndoesUptoCardSaid : Prop := Claim7.holds Tryd.pinned (.plain (OpenSpec.upto g1UndoesSpec)) g1UndoesUptoCard
end Rows
end Go.Proofs.YtgdimcnokagddaaDoor
