/-
  DERIVED. GIVEN WITH THE SEED: THE CARDS: each row of YtfjiinaekcibhaaGreatDoorRows.lean that lists a variable, with what it lists TIED to the program's text (the seventh form; the later family's looks); each row that meets fmt, with fmt's text TOLD by the authors' own Lean function (tested against real Go, not proved from fmt's source: count such statements apart). THE CARD IS WHAT COUNTS. Prove the row's statement (the work); the ties are given (YtfjiinaekcibhaaGreatDoorTie.lean); close each card by the builder's one call (the guide's Derived/Test/ToyasCard.lean, 'card_holds'). Laid BY PROGRAM, IN A SANDBOX (cutbox-door.mjs). By AI agents, Wed Nov 11 2026. No macro, syntax, notation, axiom, sorry.
-/
import Derived.Test.YtfjiinaekcibhaaGreatDoorRows
import GoSem.ClaimSeven
namespace Go.Proofs.YtfjiinaekcibhaaGreatDoor
namespace Rows

/-- THE TIED CARD OF 'sigillaw16.PairingNames'. -/
def pairingNamesCard : Claim7 := { stood := { row := pairingNamesRow, standIns := [], harness := (true, "3dde6ef14e1944fc1718dc99beb214cbc037c7da7b1db20b3744fca34dafd455"), looks := false }, kinds := [], alts := [], laidByText := true, laidKinds := [.data, .data, .data, .data, .data, .data, .data, .data], laidTests := true, laidLooks := .later }
def PairingNamesCardSaid : Prop := Claim7.holds Tryz.pinned (.plain (OpenSpec.ofChange pairingNamesSpec)) pairingNamesCard

/-- THE TIED CARD OF 'sigillaw16.PairingProducts'. -/
def pairingProductsCard : Claim7 := { stood := { row := pairingProductsRow, standIns := [], harness := (true, "3dde6ef14e1944fc1718dc99beb214cbc037c7da7b1db20b3744fca34dafd455"), looks := false }, kinds := [], alts := [], laidByText := true, laidKinds := [.data, .data, .data, .data, .data, .data, .data, .data], laidTests := true, laidLooks := .later }
def PairingProductsCardSaid : Prop := Claim7.holds Tryz.pinned (.plain (OpenSpec.ofChange pairingProductsSpec)) pairingProductsCard

/-- THE TIED CARD OF 'sigillaw16.PairingLinear'. -/
def pairingLinearCard : Claim7 := { stood := { row := pairingLinearRow, standIns := [], harness := (true, "3dde6ef14e1944fc1718dc99beb214cbc037c7da7b1db20b3744fca34dafd455"), looks := false }, kinds := [], alts := [], laidByText := true, laidKinds := [.data, .data, .data, .data, .data, .data, .data, .data], laidTests := true, laidLooks := .later }
def PairingLinearCardSaid : Prop := Claim7.holds Tryz.pinned (.plain (OpenSpec.ofChange pairingLinearSpec)) pairingLinearCard

/-- THE TIED CARD OF 'sigillaw16.PairingSums'. -/
def pairingSumsCard : Claim7 := { stood := { row := pairingSumsRow, standIns := [], harness := (true, "3dde6ef14e1944fc1718dc99beb214cbc037c7da7b1db20b3744fca34dafd455"), looks := false }, kinds := [], alts := [], laidByText := true, laidKinds := [.data, .data, .data, .data, .data, .data, .data, .data], laidTests := true, laidLooks := .later }
def PairingSumsCardSaid : Prop := Claim7.holds Tryz.pinned (.plain (OpenSpec.ofChange pairingSumsSpec)) pairingSumsCard

/-- THE TIED CARD OF 'sigillaw16.PairingOrders'. -/
def pairingOrdersCard : Claim7 := { stood := { row := pairingOrdersRow, standIns := [], harness := (true, "3dde6ef14e1944fc1718dc99beb214cbc037c7da7b1db20b3744fca34dafd455"), looks := false }, kinds := [], alts := [], laidByText := true, laidKinds := [.data, .data, .data, .data, .data, .data, .data, .data], laidTests := true, laidLooks := .later }
def PairingOrdersCardSaid : Prop := Claim7.holds Tryz.pinned (.plain (OpenSpec.ofChange pairingOrdersSpec)) pairingOrdersCard

/-- THE TIED CARD OF 'sigillaw16.PairingRefuses'. -/
def pairingRefusesCard : Claim7 := { stood := { row := pairingRefusesRow, standIns := [], harness := (true, "3dde6ef14e1944fc1718dc99beb214cbc037c7da7b1db20b3744fca34dafd455"), looks := false }, kinds := [], alts := [], laidByText := true, laidKinds := [.data, .data, .data, .data, .data, .data, .data, .data], laidTests := true, laidLooks := .later }
def PairingRefusesCardSaid : Prop := Claim7.holds Tryz.pinned (.plain (OpenSpec.ofChange pairingRefusesSpec)) pairingRefusesCard

/-- THE SECOND FORM's CARD OF 'sigillaw16.PairingNames'. -/
def pairingNamesUptoCard : Claim7 := { stood := { row := pairingNamesUptoRow, standIns := [], harness := (true, "3dde6ef14e1944fc1718dc99beb214cbc037c7da7b1db20b3744fca34dafd455"), looks := false }, kinds := [], alts := [], laidByText := true, laidKinds := [.data, .data, .data, .data, .data, .data, .data, .data], laidTests := true, laidLooks := .later }
def PairingNamesUptoCardSaid : Prop := Claim7.holds Tryz.pinned (.plain (OpenSpec.upto pairingNamesSpec)) pairingNamesUptoCard

/-- THE SECOND FORM's CARD OF 'sigillaw16.PairingProducts'. -/
def pairingProductsUptoCard : Claim7 := { stood := { row := pairingProductsUptoRow, standIns := [], harness := (true, "3dde6ef14e1944fc1718dc99beb214cbc037c7da7b1db20b3744fca34dafd455"), looks := false }, kinds := [], alts := [], laidByText := true, laidKinds := [.data, .data, .data, .data, .data, .data, .data, .data], laidTests := true, laidLooks := .later }
def PairingProductsUptoCardSaid : Prop := Claim7.holds Tryz.pinned (.plain (OpenSpec.upto pairingProductsSpec)) pairingProductsUptoCard

/-- THE SECOND FORM's CARD OF 'sigillaw16.PairingLinear'. -/
def pairingLinearUptoCard : Claim7 := { stood := { row := pairingLinearUptoRow, standIns := [], harness := (true, "3dde6ef14e1944fc1718dc99beb214cbc037c7da7b1db20b3744fca34dafd455"), looks := false }, kinds := [], alts := [], laidByText := true, laidKinds := [.data, .data, .data, .data, .data, .data, .data, .data], laidTests := true, laidLooks := .later }
def PairingLinearUptoCardSaid : Prop := Claim7.holds Tryz.pinned (.plain (OpenSpec.upto pairingLinearSpec)) pairingLinearUptoCard

/-- THE SECOND FORM's CARD OF 'sigillaw16.PairingSums'. -/
def pairingSumsUptoCard : Claim7 := { stood := { row := pairingSumsUptoRow, standIns := [], harness := (true, "3dde6ef14e1944fc1718dc99beb214cbc037c7da7b1db20b3744fca34dafd455"), looks := false }, kinds := [], alts := [], laidByText := true, laidKinds := [.data, .data, .data, .data, .data, .data, .data, .data], laidTests := true, laidLooks := .later }
def PairingSumsUptoCardSaid : Prop := Claim7.holds Tryz.pinned (.plain (OpenSpec.upto pairingSumsSpec)) pairingSumsUptoCard

/-- THE SECOND FORM's CARD OF 'sigillaw16.PairingOrders'. -/
def pairingOrdersUptoCard : Claim7 := { stood := { row := pairingOrdersUptoRow, standIns := [], harness := (true, "3dde6ef14e1944fc1718dc99beb214cbc037c7da7b1db20b3744fca34dafd455"), looks := false }, kinds := [], alts := [], laidByText := true, laidKinds := [.data, .data, .data, .data, .data, .data, .data, .data], laidTests := true, laidLooks := .later }
def PairingOrdersUptoCardSaid : Prop := Claim7.holds Tryz.pinned (.plain (OpenSpec.upto pairingOrdersSpec)) pairingOrdersUptoCard

/-- THE SECOND FORM's CARD OF 'sigillaw16.PairingRefuses'. -/
def pairingRefusesUptoCard : Claim7 := { stood := { row := pairingRefusesUptoRow, standIns := [], harness := (true, "3dde6ef14e1944fc1718dc99beb214cbc037c7da7b1db20b3744fca34dafd455"), looks := false }, kinds := [], alts := [], laidByText := true, laidKinds := [.data, .data, .data, .data, .data, .data, .data, .data], laidTests := true, laidLooks := .later }
def PairingRefusesUptoCardSaid : Prop := Claim7.holds Tryz.pinned (.plain (OpenSpec.upto pairingRefusesSpec)) pairingRefusesUptoCard
end Rows
end Go.Proofs.YtfjiinaekcibhaaGreatDoor
