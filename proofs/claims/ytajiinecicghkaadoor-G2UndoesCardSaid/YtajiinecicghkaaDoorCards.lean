/-
  DERIVED. GIVEN WITH THE SEED: THE CARDS: each row of YtajiinecicghkaaDoorRows.lean that lists a variable, with what it lists TIED to the program's text (the seventh form; the later family's looks); each row that meets fmt, with fmt's text TOLD by the authors' own Lean function (tested against real Go, not proved from fmt's source: count such statements apart). THE CARD IS WHAT COUNTS. Prove the row's statement (the work); the ties are given (YtajiinecicghkaaDoorTie.lean); close each card by the builder's one call (the guide's Derived/Test/ToyasCard.lean, 'card_holds'). Laid BY PROGRAM, IN A SANDBOX (cutbox-door.mjs). By AI agents, Wed Nov 11 2026. No macro, syntax, notation, axiom, sorry.
-/
import Derived.Test.YtajiinecicghkaaDoorRows
import GoSem.ClaimSeven
namespace Go.Proofs.YtajiinecicghkaaDoor
namespace Rows

/-- THE TIED CARD OF 'sigillaw13.G2Names'. -/
def g2NamesCard : Claim7 := { stood := { row := g2NamesRow, standIns := [], harness := (true, "705a6f69eacccafd0d6b8cf870dc421492ed330feac33740ff564ee7b8186dc4"), looks := false }, kinds := [], alts := [], laidByText := true, laidKinds := [.data, .data, .data], laidTests := true, laidLooks := .later }
def G2NamesCardSaid : Prop := Claim7.holds Tryd.pinned (.plain (OpenSpec.ofChange g2NamesSpec)) g2NamesCard

/-- THE TIED CARD OF 'sigillaw13.G2Adds'. -/
def g2AddsCard : Claim7 := { stood := { row := g2AddsRow, standIns := [], harness := (true, "705a6f69eacccafd0d6b8cf870dc421492ed330feac33740ff564ee7b8186dc4"), looks := false }, kinds := [], alts := [], laidByText := true, laidKinds := [.data, .data, .data], laidTests := true, laidLooks := .later }
def G2AddsCardSaid : Prop := Claim7.holds Tryd.pinned (.plain (OpenSpec.ofChange g2AddsSpec)) g2AddsCard

/-- THE TIED CARD OF 'sigillaw13.G2Muls'. -/
def g2MulsCard : Claim7 := { stood := { row := g2MulsRow, standIns := [], harness := (true, "705a6f69eacccafd0d6b8cf870dc421492ed330feac33740ff564ee7b8186dc4"), looks := false }, kinds := [], alts := [], laidByText := true, laidKinds := [.data, .data, .data], laidTests := true, laidLooks := .later }
def G2MulsCardSaid : Prop := Claim7.holds Tryd.pinned (.plain (OpenSpec.ofChange g2MulsSpec)) g2MulsCard

/-- THE TIED CARD OF 'sigillaw13.G2Sums'. -/
def g2SumsCard : Claim7 := { stood := { row := g2SumsRow, standIns := [], harness := (true, "705a6f69eacccafd0d6b8cf870dc421492ed330feac33740ff564ee7b8186dc4"), looks := false }, kinds := [], alts := [], laidByText := true, laidKinds := [.data, .data, .data], laidTests := true, laidLooks := .later }
def G2SumsCardSaid : Prop := Claim7.holds Tryd.pinned (.plain (OpenSpec.ofChange g2SumsSpec)) g2SumsCard

/-- THE TIED CARD OF 'sigillaw13.G2Closed'. -/
def g2ClosedCard : Claim7 := { stood := { row := g2ClosedRow, standIns := [], harness := (true, "705a6f69eacccafd0d6b8cf870dc421492ed330feac33740ff564ee7b8186dc4"), looks := false }, kinds := [], alts := [], laidByText := true, laidKinds := [.data, .data, .data], laidTests := true, laidLooks := .later }
def G2ClosedCardSaid : Prop := Claim7.holds Tryd.pinned (.plain (OpenSpec.ofChange g2ClosedSpec)) g2ClosedCard

/-- THE TIED CARD OF 'sigillaw13.G2Brackets'. -/
def g2BracketsCard : Claim7 := { stood := { row := g2BracketsRow, standIns := [], harness := (true, "705a6f69eacccafd0d6b8cf870dc421492ed330feac33740ff564ee7b8186dc4"), looks := false }, kinds := [], alts := [], laidByText := true, laidKinds := [.data, .data, .data], laidTests := true, laidLooks := .later }
def G2BracketsCardSaid : Prop := Claim7.holds Tryd.pinned (.plain (OpenSpec.ofChange g2BracketsSpec)) g2BracketsCard

/-- THE TIED CARD OF 'sigillaw13.G2Steps'. -/
def g2StepsCard : Claim7 := { stood := { row := g2StepsRow, standIns := [], harness := (true, "705a6f69eacccafd0d6b8cf870dc421492ed330feac33740ff564ee7b8186dc4"), looks := false }, kinds := [], alts := [], laidByText := true, laidKinds := [.data, .data, .data], laidTests := true, laidLooks := .later }
def G2StepsCardSaid : Prop := Claim7.holds Tryd.pinned (.plain (OpenSpec.ofChange g2StepsSpec)) g2StepsCard

/-- THE TIED CARD OF 'sigillaw13.G2Undoes'. -/
def g2UndoesCard : Claim7 := { stood := { row := g2UndoesRow, standIns := [], harness := (true, "705a6f69eacccafd0d6b8cf870dc421492ed330feac33740ff564ee7b8186dc4"), looks := false }, kinds := [], alts := [], laidByText := true, laidKinds := [.data, .data, .data], laidTests := true, laidLooks := .later }
def G2UndoesCardSaid : Prop := Claim7.holds Tryd.pinned (.plain (OpenSpec.ofChange g2UndoesSpec)) g2UndoesCard

/-- THE SECOND FORM's CARD OF 'sigillaw13.G2Names'. -/
def g2NamesUptoCard : Claim7 := { stood := { row := g2NamesUptoRow, standIns := [], harness := (true, "705a6f69eacccafd0d6b8cf870dc421492ed330feac33740ff564ee7b8186dc4"), looks := false }, kinds := [], alts := [], laidByText := true, laidKinds := [.data, .data, .data], laidTests := true, laidLooks := .later }
def G2NamesUptoCardSaid : Prop := Claim7.holds Tryd.pinned (.plain (OpenSpec.upto g2NamesSpec)) g2NamesUptoCard

/-- THE SECOND FORM's CARD OF 'sigillaw13.G2Adds'. -/
def g2AddsUptoCard : Claim7 := { stood := { row := g2AddsUptoRow, standIns := [], harness := (true, "705a6f69eacccafd0d6b8cf870dc421492ed330feac33740ff564ee7b8186dc4"), looks := false }, kinds := [], alts := [], laidByText := true, laidKinds := [.data, .data, .data], laidTests := true, laidLooks := .later }
def G2AddsUptoCardSaid : Prop := Claim7.holds Tryd.pinned (.plain (OpenSpec.upto g2AddsSpec)) g2AddsUptoCard

/-- THE SECOND FORM's CARD OF 'sigillaw13.G2Muls'. -/
def g2MulsUptoCard : Claim7 := { stood := { row := g2MulsUptoRow, standIns := [], harness := (true, "705a6f69eacccafd0d6b8cf870dc421492ed330feac33740ff564ee7b8186dc4"), looks := false }, kinds := [], alts := [], laidByText := true, laidKinds := [.data, .data, .data], laidTests := true, laidLooks := .later }
def G2MulsUptoCardSaid : Prop := Claim7.holds Tryd.pinned (.plain (OpenSpec.upto g2MulsSpec)) g2MulsUptoCard

/-- THE SECOND FORM's CARD OF 'sigillaw13.G2Sums'. -/
def g2SumsUptoCard : Claim7 := { stood := { row := g2SumsUptoRow, standIns := [], harness := (true, "705a6f69eacccafd0d6b8cf870dc421492ed330feac33740ff564ee7b8186dc4"), looks := false }, kinds := [], alts := [], laidByText := true, laidKinds := [.data, .data, .data], laidTests := true, laidLooks := .later }
def G2SumsUptoCardSaid : Prop := Claim7.holds Tryd.pinned (.plain (OpenSpec.upto g2SumsSpec)) g2SumsUptoCard

/-- THE SECOND FORM's CARD OF 'sigillaw13.G2Closed'. -/
def g2ClosedUptoCard : Claim7 := { stood := { row := g2ClosedUptoRow, standIns := [], harness := (true, "705a6f69eacccafd0d6b8cf870dc421492ed330feac33740ff564ee7b8186dc4"), looks := false }, kinds := [], alts := [], laidByText := true, laidKinds := [.data, .data, .data], laidTests := true, laidLooks := .later }
def G2ClosedUptoCardSaid : Prop := Claim7.holds Tryd.pinned (.plain (OpenSpec.upto g2ClosedSpec)) g2ClosedUptoCard

/-- THE SECOND FORM's CARD OF 'sigillaw13.G2Brackets'. -/
def g2BracketsUptoCard : Claim7 := { stood := { row := g2BracketsUptoRow, standIns := [], harness := (true, "705a6f69eacccafd0d6b8cf870dc421492ed330feac33740ff564ee7b8186dc4"), looks := false }, kinds := [], alts := [], laidByText := true, laidKinds := [.data, .data, .data], laidTests := true, laidLooks := .later }
def G2BracketsUptoCardSaid : Prop := Claim7.holds Tryd.pinned (.plain (OpenSpec.upto g2BracketsSpec)) g2BracketsUptoCard

/-- THE SECOND FORM's CARD OF 'sigillaw13.G2Steps'. -/
def g2StepsUptoCard : Claim7 := { stood := { row := g2StepsUptoRow, standIns := [], harness := (true, "705a6f69eacccafd0d6b8cf870dc421492ed330feac33740ff564ee7b8186dc4"), looks := false }, kinds := [], alts := [], laidByText := true, laidKinds := [.data, .data, .data], laidTests := true, laidLooks := .later }
def G2StepsUptoCardSaid : Prop := Claim7.holds Tryd.pinned (.plain (OpenSpec.upto g2StepsSpec)) g2StepsUptoCard

/-- THE SECOND FORM's CARD OF 'sigillaw13.G2Undoes'. -/
def g2UndoesUptoCard : Claim7 := { stood := { row := g2UndoesUptoRow, standIns := [], harness := (true, "705a6f69eacccafd0d6b8cf870dc421492ed330feac33740ff564ee7b8186dc4"), looks := false }, kinds := [], alts := [], laidByText := true, laidKinds := [.data, .data, .data], laidTests := true, laidLooks := .later }
def G2UndoesUptoCardSaid : Prop := Claim7.holds Tryd.pinned (.plain (OpenSpec.upto g2UndoesSpec)) g2UndoesUptoCard
end Rows
end Go.Proofs.YtajiinecicghkaaDoor
