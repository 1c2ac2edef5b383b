/-
  DERIVED. GIVEN WITH THE SEED: THE CARDS: each row of YtpnpiiocpjbffaaDoorRows.lean that lists a variable, with what it lists TIED to the program's text (the seventh form; the later family's looks); each row that meets fmt, with fmt's text TOLD by the authors' own Lean function (tested against real Go, not proved from fmt's source: count such statements apart). THE CARD IS WHAT COUNTS. Prove the row's statement (the work); the ties are given (YtpnpiiocpjbffaaDoorTie.lean); close each card by the builder's one call (the guide's Derived/Test/ToyasCard.lean, 'card_holds'). Laid BY PROGRAM, IN A SANDBOX (cutbox-door.mjs). By AI agents, Wed Nov 11 2026. No macro, syntax, notation, axiom, sorry.
-/
import Derived.Test.YtpnpiiocpjbffaaDoorRows
import GoSem.ClaimSeven
namespace Go.Proofs.YtpnpiiocpjbffaaDoor
namespace Rows

/-- THE TIED CARD OF 'sigillaw11.FrobTells'. -/
def frobTellsCard : Claim7 := { stood := { row := frobTellsRow, standIns := [], harness := (true, "074421385b9f4ae1e4b3a1e77242810e8484c45e167396d634f28783cb1195ae"), looks := false }, kinds := [], alts := [], laidByText := true, laidKinds := [.data, .data, .data, .data], laidTests := true, laidLooks := .later }
def FrobTellsCardSaid : Prop := Claim7.holds Tryd.pinned (.plain (OpenSpec.ofChange frobTellsSpec)) frobTellsCard

/-- THE TIED CARD OF 'sigillaw11.FrobSquares'. -/
def frobSquaresCard : Claim7 := { stood := { row := frobSquaresRow, standIns := [], harness := (true, "074421385b9f4ae1e4b3a1e77242810e8484c45e167396d634f28783cb1195ae"), looks := false }, kinds := [], alts := [], laidByText := true, laidKinds := [.data, .data, .data, .data], laidTests := true, laidLooks := .later }
def FrobSquaresCardSaid : Prop := Claim7.holds Tryd.pinned (.plain (OpenSpec.ofChange frobSquaresSpec)) frobSquaresCard

/-- THE TIED CARD OF 'sigillaw11.FrobSteps'. -/
def frobStepsCard : Claim7 := { stood := { row := frobStepsRow, standIns := [], harness := (true, "074421385b9f4ae1e4b3a1e77242810e8484c45e167396d634f28783cb1195ae"), looks := false }, kinds := [], alts := [], laidByText := true, laidKinds := [.data, .data, .data, .data], laidTests := true, laidLooks := .later }
def FrobStepsCardSaid : Prop := Claim7.holds Tryd.pinned (.plain (OpenSpec.ofChange frobStepsSpec)) frobStepsCard

/-- THE TIED CARD OF 'sigillaw11.FrobSums'. -/
def frobSumsCard : Claim7 := { stood := { row := frobSumsRow, standIns := [], harness := (true, "074421385b9f4ae1e4b3a1e77242810e8484c45e167396d634f28783cb1195ae"), looks := false }, kinds := [], alts := [], laidByText := true, laidKinds := [.data, .data, .data, .data], laidTests := true, laidLooks := .later }
def FrobSumsCardSaid : Prop := Claim7.holds Tryd.pinned (.plain (OpenSpec.ofChange frobSumsSpec)) frobSumsCard

/-- THE TIED CARD OF 'sigillaw11.FrobHalf'. -/
def frobHalfCard : Claim7 := { stood := { row := frobHalfRow, standIns := [], harness := (true, "074421385b9f4ae1e4b3a1e77242810e8484c45e167396d634f28783cb1195ae"), looks := false }, kinds := [], alts := [], laidByText := true, laidKinds := [.data, .data, .data, .data], laidTests := true, laidLooks := .later }
def FrobHalfCardSaid : Prop := Claim7.holds Tryd.pinned (.plain (OpenSpec.ofChange frobHalfSpec)) frobHalfCard

/-- THE TIED CARD OF 'sigillaw11.FrobWithin'. -/
def frobWithinCard : Claim7 := { stood := { row := frobWithinRow, standIns := [], harness := (true, "074421385b9f4ae1e4b3a1e77242810e8484c45e167396d634f28783cb1195ae"), looks := false }, kinds := [], alts := [], laidByText := true, laidKinds := [.data, .data, .data, .data], laidTests := true, laidLooks := .later }
def FrobWithinCardSaid : Prop := Claim7.holds Tryd.pinned (.plain (OpenSpec.ofChange frobWithinSpec)) frobWithinCard

/-- THE TIED CARD OF 'sigillaw11.FrobPowers'. -/
def frobPowersCard : Claim7 := { stood := { row := frobPowersRow, standIns := [], harness := (true, "074421385b9f4ae1e4b3a1e77242810e8484c45e167396d634f28783cb1195ae"), looks := false }, kinds := [], alts := [], laidByText := true, laidKinds := [.data, .data, .data, .data], laidTests := true, laidLooks := .later }
def FrobPowersCardSaid : Prop := Claim7.holds Tryd.pinned (.plain (OpenSpec.ofChange frobPowersSpec)) frobPowersCard

/-- THE SECOND FORM's CARD OF 'sigillaw11.FrobTells'. -/
def frobTellsUptoCard : Claim7 := { stood := { row := frobTellsUptoRow, standIns := [], harness := (true, "074421385b9f4ae1e4b3a1e77242810e8484c45e167396d634f28783cb1195ae"), looks := false }, kinds := [], alts := [], laidByText := true, laidKinds := [.data, .data, .data, .data], laidTests := true, laidLooks := .later }
def FrobTellsUptoCardSaid : Prop := Claim7.holds Tryd.pinned (.plain (OpenSpec.upto frobTellsSpec)) frobTellsUptoCard

/-- THE SECOND FORM's CARD OF 'sigillaw11.FrobSquares'. -/
def frobSquaresUptoCard : Claim7 := { stood := { row := frobSquaresUptoRow, standIns := [], harness := (true, "074421385b9f4ae1e4b3a1e77242810e8484c45e167396d634f28783cb1195ae"), looks := false }, kinds := [], alts := [], laidByText := true, laidKinds := [.data, .data, .data, .data], laidTests := true, laidLooks := .later }
def FrobSquaresUptoCardSaid : Prop := Claim7.holds Tryd.pinned (.plain (OpenSpec.upto frobSquaresSpec)) frobSquaresUptoCard

/-- THE SECOND FORM's CARD OF 'sigillaw11.FrobSteps'. -/
def frobStepsUptoCard : Claim7 := { stood := { row := frobStepsUptoRow, standIns := [], harness := (true, "074421385b9f4ae1e4b3a1e77242810e8484c45e167396d634f28783cb1195ae"), looks := false }, kinds := [], alts := [], laidByText := true, laidKinds := [.data, .data, .data, .data], laidTests := true, laidLooks := .later }
def FrobStepsUptoCardSaid : Prop := Claim7.holds Tryd.pinned (.plain (OpenSpec.upto frobStepsSpec)) frobStepsUptoCard

/-- THE SECOND FORM's CARD OF 'sigillaw11.FrobSums'. -/
def frobSumsUptoCard : Claim7 := { stood := { row := frobSumsUptoRow, standIns := [], harness := (true, "074421385b9f4ae1e4b3a1e77242810e8484c45e167396d634f28783cb1195ae"), looks := false }, kinds := [], alts := [], laidByText := true, laidKinds := [.data, .data, .data, .data], laidTests := true, laidLooks := .later }
def FrobSumsUptoCardSaid : Prop := Claim7.holds Tryd.pinned (.plain (OpenSpec.upto frobSumsSpec)) frobSumsUptoCard

/-- THE SECOND FORM's CARD OF 'sigillaw11.FrobHalf'. -/
def frobHalfUptoCard : Claim7 := { stood := { row := frobHalfUptoRow, standIns := [], harness := (true, "074421385b9f4ae1e4b3a1e77242810e8484c45e167396d634f28783cb1195ae"), looks := false }, kinds := [], alts := [], laidByText := true, laidKinds := [.data, .data, .data, .data], laidTests := true, laidLooks := .later }
def FrobHalfUptoCardSaid : Prop := Claim7.holds Tryd.pinned (.plain (OpenSpec.upto frobHalfSpec)) frobHalfUptoCard

/-- THE SECOND FORM's CARD OF 'sigillaw11.FrobWithin'. -/
def frobWithinUptoCard : Claim7 := { stood := { row := frobWithinUptoRow, standIns := [], harness := (true, "074421385b9f4ae1e4b3a1e77242810e8484c45e167396d634f28783cb1195ae"), looks := false }, kinds := [], alts := [], laidByText := true, laidKinds := [.data, .data, .data, .data], laidTests := true, laidLooks := .later }
def FrobWithinUptoCardSaid : Prop := Claim7.holds Tryd.pinned (.plain (OpenSpec.upto frobWithinSpec)) frobWithinUptoCard

/-- THE SECOND FORM's CARD OF 'sigillaw11.FrobPowers'. -/
def frobPowersUptoCard : Claim7 := { stood := { row := frobPowersUptoRow, standIns := [], harness := (true, "074421385b9f4ae1e4b3a1e77242810e8484c45e167396d634f28783cb1195ae"), looks := false }, kinds := [], alts := [], laidByText := true, laidKinds := [.data, .data, .data, .data], laidTests := true, laidLooks := .later }
def FrobPowersUptoCardSaid : Prop := Claim7.holds Tryd.pinned (.plain (OpenSpec.upto frobPowersSpec)) frobPowersUptoCard
end Rows
end Go.Proofs.YtpnpiiocpjbffaaDoor
