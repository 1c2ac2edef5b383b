/-
  DERIVED. GIVEN WITH THE SEED: THE CARDS: each row of YtpkfknmpegieaaaDoorRows.lean that lists a variable, with what it lists TIED to the program's text (the seventh form; the later family's looks); each row that meets fmt, with fmt's text TOLD by the authors' own Lean function (tested against real Go, not proved from fmt's source: count such statements apart). THE CARD IS WHAT COUNTS. Prove the row's statement (the work); the ties are given (YtpkfknmpegieaaaDoorTie.lean); close each card by the builder's one call (the guide's Derived/Test/ToyasCard.lean, 'card_holds'). Laid BY PROGRAM, IN A SANDBOX (cutbox-door.mjs). By AI agents, Wed Nov 11 2026. No macro, syntax, notation, axiom, sorry.
-/
import Derived.Test.YtpkfknmpegieaaaDoorRows
import GoSem.ClaimSeven
namespace Go.Proofs.YtpkfknmpegieaaaDoor
namespace Rows

/-- THE TIED CARD OF 'sigillaw04.FpNames'. -/
def fpNamesCard : Claim7 := { stood := { row := fpNamesRow, standIns := [], harness := (true, "8545ae0fd01535b44429065319384dcac79cf8aa262066c5804866b3cea2498c"), looks := false }, kinds := [], alts := [], laidByText := true, laidKinds := [.data, .data, .data], laidTests := true, laidLooks := .later }
def FpNamesCardSaid : Prop := Claim7.holds Tryd.pinned (.plain (OpenSpec.ofChange fpNamesSpec)) fpNamesCard

/-- THE TIED CARD OF 'sigillaw04.FpSums'. -/
def fpSumsCard : Claim7 := { stood := { row := fpSumsRow, standIns := [], harness := (true, "8545ae0fd01535b44429065319384dcac79cf8aa262066c5804866b3cea2498c"), looks := false }, kinds := [], alts := [], laidByText := true, laidKinds := [.data, .data, .data], laidTests := true, laidLooks := .later }
def FpSumsCardSaid : Prop := Claim7.holds Tryd.pinned (.plain (OpenSpec.ofChange fpSumsSpec)) fpSumsCard

/-- THE TIED CARD OF 'sigillaw04.FpProducts'. -/
def fpProductsCard : Claim7 := { stood := { row := fpProductsRow, standIns := [], harness := (true, "8545ae0fd01535b44429065319384dcac79cf8aa262066c5804866b3cea2498c"), looks := false }, kinds := [], alts := [], laidByText := true, laidKinds := [.data, .data, .data], laidTests := true, laidLooks := .later }
def FpProductsCardSaid : Prop := Claim7.holds Tryd.pinned (.plain (OpenSpec.ofChange fpProductsSpec)) fpProductsCard

/-- THE TIED CARD OF 'sigillaw04.FpPowers'. -/
def fpPowersCard : Claim7 := { stood := { row := fpPowersRow, standIns := [], harness := (true, "8545ae0fd01535b44429065319384dcac79cf8aa262066c5804866b3cea2498c"), looks := false }, kinds := [], alts := [], laidByText := true, laidKinds := [.data, .data, .data], laidTests := true, laidLooks := .later }
def FpPowersCardSaid : Prop := Claim7.holds Tryd.pinned (.plain (OpenSpec.ofChange fpPowersSpec)) fpPowersCard

/-- THE TIED CARD OF 'sigillaw04.FpOctets'. -/
def fpOctetsCard : Claim7 := { stood := { row := fpOctetsRow, standIns := [], harness := (true, "8545ae0fd01535b44429065319384dcac79cf8aa262066c5804866b3cea2498c"), looks := false }, kinds := [], alts := [], laidByText := true, laidKinds := [.data, .data, .data], laidTests := true, laidLooks := .later }
def FpOctetsCardSaid : Prop := Claim7.holds Tryd.pinned (.plain (OpenSpec.ofChange fpOctetsSpec)) fpOctetsCard

/-- THE TIED CARD OF 'sigillaw04.FpField'. -/
def fpFieldCard : Claim7 := { stood := { row := fpFieldRow, standIns := [], harness := (true, "8545ae0fd01535b44429065319384dcac79cf8aa262066c5804866b3cea2498c"), looks := false }, kinds := [], alts := [], laidByText := true, laidKinds := [.data, .data, .data], laidTests := true, laidLooks := .later }
def FpFieldCardSaid : Prop := Claim7.holds Tryd.pinned (.plain (OpenSpec.ofChange fpFieldSpec)) fpFieldCard

/-- THE TIED CARD OF 'sigillaw04.FpUndoes'. -/
def fpUndoesCard : Claim7 := { stood := { row := fpUndoesRow, standIns := [], harness := (true, "8545ae0fd01535b44429065319384dcac79cf8aa262066c5804866b3cea2498c"), looks := false }, kinds := [], alts := [], laidByText := true, laidKinds := [.data, .data, .data], laidTests := true, laidLooks := .later }
def FpUndoesCardSaid : Prop := Claim7.holds Tryd.pinned (.plain (OpenSpec.ofChange fpUndoesSpec)) fpUndoesCard

/-- THE TIED CARD OF 'sigillaw04.FpBelow'. -/
def fpBelowCard : Claim7 := { stood := { row := fpBelowRow, standIns := [], harness := (true, "8545ae0fd01535b44429065319384dcac79cf8aa262066c5804866b3cea2498c"), looks := false }, kinds := [], alts := [], laidByText := true, laidKinds := [.data, .data, .data], laidTests := true, laidLooks := .later }
def FpBelowCardSaid : Prop := Claim7.holds Tryd.pinned (.plain (OpenSpec.ofChange fpBelowSpec)) fpBelowCard

/-- THE TIED CARD OF 'sigillaw04.FpFermat'. -/
def fpFermatCard : Claim7 := { stood := { row := fpFermatRow, standIns := [], harness := (true, "8545ae0fd01535b44429065319384dcac79cf8aa262066c5804866b3cea2498c"), looks := false }, kinds := [], alts := [], laidByText := true, laidKinds := [.data, .data, .data], laidTests := true, laidLooks := .later }
def FpFermatCardSaid : Prop := Claim7.holds Tryd.pinned (.plain (OpenSpec.ofChange fpFermatSpec)) fpFermatCard

/-- THE TIED CARD OF 'sigillaw04.FpBack'. -/
def fpBackCard : Claim7 := { stood := { row := fpBackRow, standIns := [], harness := (true, "8545ae0fd01535b44429065319384dcac79cf8aa262066c5804866b3cea2498c"), looks := false }, kinds := [], alts := [], laidByText := true, laidKinds := [.data, .data, .data], laidTests := true, laidLooks := .later }
def FpBackCardSaid : Prop := Claim7.holds Tryd.pinned (.plain (OpenSpec.ofChange fpBackSpec)) fpBackCard

/-- THE TIED CARD OF 'sigillaw05.FprootTells'. -/
def fprootTellsCard : Claim7 := { stood := { row := fprootTellsRow, standIns := [], harness := (true, "8545ae0fd01535b44429065319384dcac79cf8aa262066c5804866b3cea2498c"), looks := false }, kinds := [], alts := [], laidByText := true, laidKinds := [.data, .data], laidTests := true, laidLooks := .later }
def FprootTellsCardSaid : Prop := Claim7.holds Tryd.pinned (.plain (OpenSpec.ofChange fprootTellsSpec)) fprootTellsCard

/-- THE TIED CARD OF 'sigillaw05.FprootBack'. -/
def fprootBackCard : Claim7 := { stood := { row := fprootBackRow, standIns := [], harness := (true, "8545ae0fd01535b44429065319384dcac79cf8aa262066c5804866b3cea2498c"), looks := false }, kinds := [], alts := [], laidByText := true, laidKinds := [.data, .data], laidTests := true, laidLooks := .later }
def FprootBackCardSaid : Prop := Claim7.holds Tryd.pinned (.plain (OpenSpec.ofChange fprootBackSpec)) fprootBackCard

/-- THE TIED CARD OF 'sigillaw05.FprootOne'. -/
def fprootOneCard : Claim7 := { stood := { row := fprootOneRow, standIns := [], harness := (true, "8545ae0fd01535b44429065319384dcac79cf8aa262066c5804866b3cea2498c"), looks := false }, kinds := [], alts := [], laidByText := true, laidKinds := [.data, .data], laidTests := true, laidLooks := .later }
def FprootOneCardSaid : Prop := Claim7.holds Tryd.pinned (.plain (OpenSpec.ofChange fprootOneSpec)) fprootOneCard

/-- THE TIED CARD OF 'sigillaw05.FprootProducts'. -/
def fprootProductsCard : Claim7 := { stood := { row := fprootProductsRow, standIns := [], harness := (true, "8545ae0fd01535b44429065319384dcac79cf8aa262066c5804866b3cea2498c"), looks := false }, kinds := [], alts := [], laidByText := true, laidKinds := [.data, .data], laidTests := true, laidLooks := .later }
def FprootProductsCardSaid : Prop := Claim7.holds Tryd.pinned (.plain (OpenSpec.ofChange fprootProductsSpec)) fprootProductsCard

/-- THE TIED CARD OF 'sigillaw05.FprootSides'. -/
def fprootSidesCard : Claim7 := { stood := { row := fprootSidesRow, standIns := [], harness := (true, "8545ae0fd01535b44429065319384dcac79cf8aa262066c5804866b3cea2498c"), looks := false }, kinds := [], alts := [], laidByText := true, laidKinds := [.data, .data], laidTests := true, laidLooks := .later }
def FprootSidesCardSaid : Prop := Claim7.holds Tryd.pinned (.plain (OpenSpec.ofChange fprootSidesSpec)) fprootSidesCard

/-- THE SECOND FORM's CARD OF 'sigillaw04.FpNames'. -/
def fpNamesUptoCard : Claim7 := { stood := { row := fpNamesUptoRow, standIns := [], harness := (true, "8545ae0fd01535b44429065319384dcac79cf8aa262066c5804866b3cea2498c"), looks := false }, kinds := [], alts := [], laidByText := true, laidKinds := [.data, .data, .data], laidTests := true, laidLooks := .later }
def FpNamesUptoCardSaid : Prop := Claim7.holds Tryd.pinned (.plain (OpenSpec.upto fpNamesSpec)) fpNamesUptoCard

/-- THE SECOND FORM's CARD OF 'sigillaw04.FpSums'. -/
def fpSumsUptoCard : Claim7 := { stood := { row := fpSumsUptoRow, standIns := [], harness := (true, "8545ae0fd01535b44429065319384dcac79cf8aa262066c5804866b3cea2498c"), looks := false }, kinds := [], alts := [], laidByText := true, laidKinds := [.data, .data, .data], laidTests := true, laidLooks := .later }
def FpSumsUptoCardSaid : Prop := Claim7.holds Tryd.pinned (.plain (OpenSpec.upto fpSumsSpec)) fpSumsUptoCard

/-- THE SECOND FORM's CARD OF 'sigillaw04.FpProducts'. -/
def fpProductsUptoCard : Claim7 := { stood := { row := fpProductsUptoRow, standIns := [], harness := (true, "8545ae0fd01535b44429065319384dcac79cf8aa262066c5804866b3cea2498c"), looks := false }, kinds := [], alts := [], laidByText := true, laidKinds := [.data, .data, .data], laidTests := true, laidLooks := .later }
def FpProductsUptoCardSaid : Prop := Claim7.holds Tryd.pinned (.plain (OpenSpec.upto fpProductsSpec)) fpProductsUptoCard

/-- THE SECOND FORM's CARD OF 'sigillaw04.FpPowers'. -/
def fpPowersUptoCard : Claim7 := { stood := { row := fpPowersUptoRow, standIns := [], harness := (true, "8545ae0fd01535b44429065319384dcac79cf8aa262066c5804866b3cea2498c"), looks := false }, kinds := [], alts := [], laidByText := true, laidKinds := [.data, .data, .data], laidTests := true, laidLooks := .later }
def FpPowersUptoCardSaid : Prop := Claim7.holds Tryd.pinned (.plain (OpenSpec.upto fpPowersSpec)) fpPowersUptoCard

/-- THE SECOND FORM's CARD OF 'sigillaw04.FpOctets'. -/
def fpOctetsUptoCard : Claim7 := { stood := { row := fpOctetsUptoRow, standIns := [], harness := (true, "8545ae0fd01535b44429065319384dcac79cf8aa262066c5804866b3cea2498c"), looks := false }, kinds := [], alts := [], laidByText := true, laidKinds := [.data, .data, .data], laidTests := true, laidLooks := .later }
def FpOctetsUptoCardSaid : Prop := Claim7.holds Tryd.pinned (.plain (OpenSpec.upto fpOctetsSpec)) fpOctetsUptoCard

/-- THE SECOND FORM's CARD OF 'sigillaw04.FpField'. -/
def fpFieldUptoCard : Claim7 := { stood := { row := fpFieldUptoRow, standIns := [], harness := (true, "8545ae0fd01535b44429065319384dcac79cf8aa262066c5804866b3cea2498c"), looks := false }, kinds := [], alts := [], laidByText := true, laidKinds := [.data, .data, .data], laidTests := true, laidLooks := .later }
def FpFieldUptoCardSaid : Prop := Claim7.holds Tryd.pinned (.plain (OpenSpec.upto fpFieldSpec)) fpFieldUptoCard

/-- THE SECOND FORM's CARD OF 'sigillaw04.FpUndoes'. -/
def fpUndoesUptoCard : Claim7 := { stood := { row := fpUndoesUptoRow, standIns := [], harness := (true, "8545ae0fd01535b44429065319384dcac79cf8aa262066c5804866b3cea2498c"), looks := false }, kinds := [], alts := [], laidByText := true, laidKinds := [.data, .data, .data], laidTests := true, laidLooks := .later }
def FpUndoesUptoCardSaid : Prop := Claim7.holds Tryd.pinned (.plain (OpenSpec.upto fpUndoesSpec)) fpUndoesUptoCard

/-- THE SECOND FORM's CARD OF 'sigillaw04.FpBelow'. -/
def fpBelowUptoCard : Claim7 := { stood := { row := fpBelowUptoRow, standIns := [], harness := (true, "8545ae0fd01535b44429065319384dcac79cf8aa262066c5804866b3cea2498c"), looks := false }, kinds := [], alts := [], laidByText := true, laidKinds := [.data, .data, .data], laidTests := true, laidLooks := .later }
def FpBelowUptoCardSaid : Prop := Claim7.holds Tryd.pinned (.plain (OpenSpec.upto fpBelowSpec)) fpBelowUptoCard

/-- THE SECOND FORM's CARD OF 'sigillaw04.FpFermat'. -/
def fpFermatUptoCard : Claim7 := { stood := { row := fpFermatUptoRow, standIns := [], harness := (true, "8545ae0fd01535b44429065319384dcac79cf8aa262066c5804866b3cea2498c"), looks := false }, kinds := [], alts := [], laidByText := true, laidKinds := [.data, .data, .data], laidTests := true, laidLooks := .later }
def FpFermatUptoCardSaid : Prop := Claim7.holds Tryd.pinned (.plain (OpenSpec.upto fpFermatSpec)) fpFermatUptoCard

/-- THE SECOND FORM's CARD OF 'sigillaw04.FpBack'. -/
def fpBackUptoCard : Claim7 := { stood := { row := fpBackUptoRow, standIns := [], harness := (true, "8545ae0fd01535b44429065319384dcac79cf8aa262066c5804866b3cea2498c"), looks := false }, kinds := [], alts := [], laidByText := true, laidKinds := [.data, .data, .data], laidTests := true, laidLooks := .later }
def FpBackUptoCardSaid : Prop := Claim7.holds Tryd.pinned (.plain (OpenSpec.upto fpBackSpec)) fpBackUptoCard

/-- THE SECOND FORM's CARD OF 'sigillaw05.FprootTells'. -/
def fprootTellsUptoCard : Claim7 := { stood := { row := fprootTellsUptoRow, standIns := [], harness := (true, "8545ae0fd01535b44429065319384dcac79cf8aa262066c5804866b3cea2498c"), looks := false }, kinds := [], alts := [], laidByText := true, laidKinds := [.data, .data], laidTests := true, laidLooks := .later }
def FprootTellsUptoCardSaid : Prop := Claim7.holds Tryd.pinned (.plain (OpenSpec.upto fprootTellsSpec)) fprootTellsUptoCard

/-- THE SECOND FORM's CARD OF 'sigillaw05.FprootBack'. -/
def fprootBackUptoCard : Claim7 := { stood := { row := fprootBackUptoRow, standIns := [], harness := (true, "8545ae0fd01535b44429065319384dcac79cf8aa262066c5804866b3cea2498c"), looks := false }, kinds := [], alts := [], laidByText := true, laidKinds := [.data, .data], laidTests := true, laidLooks := .later }
def FprootBackUptoCardSaid : Prop := Claim7.holds Tryd.pinned (.plain (OpenSpec.upto fprootBackSpec)) fprootBackUptoCard

/-- THE SECOND FORM's CARD OF 'sigillaw05.FprootOne'. -/
def fprootOneUptoCard : Claim7 := { stood := { row := fprootOneUptoRow, standIns := [], harness := (true, "8545ae0fd01535b44429065319384dcac79cf8aa262066c5804866b3cea2498c"), looks := false }, kinds := [], alts := [], laidByText := true, laidKinds := [.data, .data], laidTests := true, laidLooks := .later }
def FprootOneUptoCardSaid : Prop := Claim7.holds Tryd.pinned (.plain (OpenSpec.upto fprootOneSpec)) fprootOneUptoCard

/-- THE SECOND FORM's CARD OF 'sigillaw05.FprootProducts'. -/
def fprootProductsUptoCard : Claim7 := { stood := { row := fprootProductsUptoRow, standIns := [], harness := (true, "8545ae0fd01535b44429065319384dcac79cf8aa262066c5804866b3cea2498c"), looks := false }, kinds := [], alts := [], laidByText := true, laidKinds := [.data, .data], laidTests := true, laidLooks := .later }
def FprootProductsUptoCardSaid : Prop := Claim7.holds Tryd.pinned (.plain (OpenSpec.upto fprootProductsSpec)) fprootProductsUptoCard

/-- THE SECOND FORM's CARD OF 'sigillaw05.FprootSides'. -/
def fprootSidesUptoCard : Claim7 := { stood := { row := fprootSidesUptoRow, standIns := [], harness := (true, "8545ae0fd01535b44429065319384dcac79cf8aa262066c5804866b3cea2498c"), looks := false }, kinds := [], alts := [], laidByText := true, laidKinds := [.data, .data], laidTests := true, laidLooks := .later }
def FprootSidesUptoCardSaid : Prop := Claim7.holds Tryd.pinned (.plain (OpenSpec.upto fprootSidesSpec)) fprootSidesUptoCard
end Rows
end Go.Proofs.YtpkfknmpegieaaaDoor
