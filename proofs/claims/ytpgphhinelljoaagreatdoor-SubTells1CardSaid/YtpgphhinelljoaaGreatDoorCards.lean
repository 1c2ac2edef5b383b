/-
  DERIVED. GIVEN WITH THE SEED: THE CARDS: each row of YtpgphhinelljoaaGreatDoorRows.lean that lists a variable, with what it lists TIED to the program's text (the seventh form; the later family's looks); each row that meets fmt, with fmt's text TOLD by the authors' own Lean function (tested against real Go, not proved from fmt's source: count such statements apart). THE CARD IS WHAT COUNTS. Prove the row's statement (the work); the ties are given (YtpgphhinelljoaaGreatDoorTie.lean); close each card by the builder's one call (the guide's Derived/Test/ToyasCard.lean, 'card_holds'). Laid BY PROGRAM, IN A SANDBOX (cutbox-door.mjs). By AI agents, Wed Nov 11 2026. No macro, syntax, notation, axiom, sorry.
-/
import Derived.Test.YtpgphhinelljoaaGreatDoorRows
import GoSem.ClaimSeven
namespace Go.Proofs.YtpgphhinelljoaaGreatDoor
namespace Rows

/-- THE TIED CARD OF 'sigillaw14.SubTells1'. -/
def subTells1Card : Claim7 := { stood := { row := subTells1Row, standIns := [], harness := (true, "06c160974d195998420b63ca448a814a2fa6b0ae31bb9edacadd4d6d466ce218"), looks := false }, kinds := [], alts := [], laidByText := true, laidKinds := [.data, .data, .data, .data, .data, .data], laidTests := true, laidLooks := .later }
def SubTells1CardSaid : Prop := Claim7.holds Tryz.pinned (.plain (OpenSpec.ofChange subTells1Spec)) subTells1Card

/-- THE TIED CARD OF 'sigillaw14.SubTells2'. -/
def subTells2Card : Claim7 := { stood := { row := subTells2Row, standIns := [], harness := (true, "06c160974d195998420b63ca448a814a2fa6b0ae31bb9edacadd4d6d466ce218"), looks := false }, kinds := [], alts := [], laidByText := true, laidKinds := [.data, .data, .data, .data, .data, .data], laidTests := true, laidLooks := .later }
def SubTells2CardSaid : Prop := Claim7.holds Tryz.pinned (.plain (OpenSpec.ofChange subTells2Spec)) subTells2Card

/-- THE TIED CARD OF 'sigillaw14.SubClears'. -/
def subClearsCard : Claim7 := { stood := { row := subClearsRow, standIns := [], harness := (true, "06c160974d195998420b63ca448a814a2fa6b0ae31bb9edacadd4d6d466ce218"), looks := false }, kinds := [], alts := [], laidByText := true, laidKinds := [.data, .data, .data, .data, .data, .data], laidTests := true, laidLooks := .later }
def SubClearsCardSaid : Prop := Claim7.holds Tryz.pinned (.plain (OpenSpec.ofChange subClearsSpec)) subClearsCard

/-- THE SECOND FORM's CARD OF 'sigillaw14.SubTells1'. -/
def subTells1UptoCard : Claim7 := { stood := { row := subTells1UptoRow, standIns := [], harness := (true, "06c160974d195998420b63ca448a814a2fa6b0ae31bb9edacadd4d6d466ce218"), looks := false }, kinds := [], alts := [], laidByText := true, laidKinds := [.data, .data, .data, .data, .data, .data], laidTests := true, laidLooks := .later }
def SubTells1UptoCardSaid : Prop := Claim7.holds Tryz.pinned (.plain (OpenSpec.upto subTells1Spec)) subTells1UptoCard

/-- THE SECOND FORM's CARD OF 'sigillaw14.SubTells2'. -/
def subTells2UptoCard : Claim7 := { stood := { row := subTells2UptoRow, standIns := [], harness := (true, "06c160974d195998420b63ca448a814a2fa6b0ae31bb9edacadd4d6d466ce218"), looks := false }, kinds := [], alts := [], laidByText := true, laidKinds := [.data, .data, .data, .data, .data, .data], laidTests := true, laidLooks := .later }
def SubTells2UptoCardSaid : Prop := Claim7.holds Tryz.pinned (.plain (OpenSpec.upto subTells2Spec)) subTells2UptoCard

/-- THE SECOND FORM's CARD OF 'sigillaw14.SubClears'. -/
def subClearsUptoCard : Claim7 := { stood := { row := subClearsUptoRow, standIns := [], harness := (true, "06c160974d195998420b63ca448a814a2fa6b0ae31bb9edacadd4d6d466ce218"), looks := false }, kinds := [], alts := [], laidByText := true, laidKinds := [.data, .data, .data, .data, .data, .data], laidTests := true, laidLooks := .later }
def SubClearsUptoCardSaid : Prop := Claim7.holds Tryz.pinned (.plain (OpenSpec.upto subClearsSpec)) subClearsUptoCard
end Rows
end Go.Proofs.YtpgphhinelljoaaGreatDoor
