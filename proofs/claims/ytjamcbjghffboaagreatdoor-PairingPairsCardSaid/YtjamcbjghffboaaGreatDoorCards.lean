/-
  DERIVED. GIVEN WITH THE SEED: THE CARDS: each row of YtjamcbjghffboaaGreatDoorRows.lean that lists a variable, with what it lists TIED to the program's text (the seventh form; the later family's looks); each row that meets fmt, with fmt's text TOLD by the authors' own Lean function (tested against real Go, not proved from fmt's source: count such statements apart). THE CARD IS WHAT COUNTS. Prove the row's statement (the work); the ties are given (YtjamcbjghffboaaGreatDoorTie.lean); close each card by the builder's one call (the guide's Derived/Test/ToyasCard.lean, 'card_holds'). Laid BY PROGRAM, IN A SANDBOX (cutbox-door.mjs). By AI agents, Wed Nov 11 2026. No macro, syntax, notation, axiom, sorry.
-/
import Derived.Test.YtjamcbjghffboaaGreatDoorRows
import GoSem.ClaimSeven
namespace Go.Proofs.YtjamcbjghffboaaGreatDoor
namespace Rows

/-- THE TIED CARD OF 'sigillaw16.PairingFinals'. -/
def pairingFinalsCard : Claim7 := { stood := { row := pairingFinalsRow, standIns := [], harness := (true, "3554eff962c9a468ded0fd1b7f64673c8e900cb6a40295c4b388caddde821ecd"), looks := false }, kinds := [], alts := [], laidByText := true, laidKinds := [.data, .data, .data, .data, .data, .data, .data, .data], laidTests := true, laidLooks := .later }
def PairingFinalsCardSaid : Prop := Claim7.holds Tryz.pinned (.plain (OpenSpec.ofChange pairingFinalsSpec)) pairingFinalsCard

/-- THE TIED CARD OF 'sigillaw16.PairingPairs'. -/
def pairingPairsCard : Claim7 := { stood := { row := pairingPairsRow, standIns := [], harness := (true, "3554eff962c9a468ded0fd1b7f64673c8e900cb6a40295c4b388caddde821ecd"), looks := false }, kinds := [], alts := [], laidByText := true, laidKinds := [.data, .data, .data, .data, .data, .data, .data, .data], laidTests := true, laidLooks := .later }
def PairingPairsCardSaid : Prop := Claim7.holds Tryz.pinned (.plain (OpenSpec.ofChange pairingPairsSpec)) pairingPairsCard

/-- THE SECOND FORM's CARD OF 'sigillaw16.PairingFinals'. -/
def pairingFinalsUptoCard : Claim7 := { stood := { row := pairingFinalsUptoRow, standIns := [], harness := (true, "3554eff962c9a468ded0fd1b7f64673c8e900cb6a40295c4b388caddde821ecd"), looks := false }, kinds := [], alts := [], laidByText := true, laidKinds := [.data, .data, .data, .data, .data, .data, .data, .data], laidTests := true, laidLooks := .later }
def PairingFinalsUptoCardSaid : Prop := Claim7.holds Tryz.pinned (.plain (OpenSpec.upto pairingFinalsSpec)) pairingFinalsUptoCard

/-- THE SECOND FORM's CARD OF 'sigillaw16.PairingPairs'. -/
def pairingPairsUptoCard : Claim7 := { stood := { row := pairingPairsUptoRow, standIns := [], harness := (true, "3554eff962c9a468ded0fd1b7f64673c8e900cb6a40295c4b388caddde821ecd"), looks := false }, kinds := [], alts := [], laidByText := true, laidKinds := [.data, .data, .data, .data, .data, .data, .data, .data], laidTests := true, laidLooks := .later }
def PairingPairsUptoCardSaid : Prop := Claim7.holds Tryz.pinned (.plain (OpenSpec.upto pairingPairsSpec)) pairingPairsUptoCard
end Rows
end Go.Proofs.YtjamcbjghffboaaGreatDoor
