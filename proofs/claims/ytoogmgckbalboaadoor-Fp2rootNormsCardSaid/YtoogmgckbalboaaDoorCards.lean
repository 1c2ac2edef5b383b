/-
  DERIVED. GIVEN WITH THE SEED: THE CARDS: each row of YtoogmgckbalboaaDoorRows.lean that lists a variable, with what it lists TIED to the program's text (the seventh form; the later family's looks); each row that meets fmt, with fmt's text TOLD by the authors' own Lean function (tested against real Go, not proved from fmt's source: count such statements apart). THE CARD IS WHAT COUNTS. Prove the row's statement (the work); the ties are given (YtoogmgckbalboaaDoorTie.lean); close each card by the builder's one call (the guide's Derived/Test/ToyasCard.lean, 'card_holds'). Laid BY PROGRAM, IN A SANDBOX (cutbox-door.mjs). By AI agents, Wed Nov 11 2026. No macro, syntax, notation, axiom, sorry.
-/
import Derived.Test.YtoogmgckbalboaaDoorRows
import GoSem.ClaimSeven
namespace Go.Proofs.YtoogmgckbalboaaDoor
namespace Rows

/-- THE TIED CARD OF 'sigillaw08.Fp2rootTells'. -/
def fp2rootTellsCard : Claim7 := { stood := { row := fp2rootTellsRow, standIns := [], harness := (true, "1d18362ca5c070a22f5e0148104f891cb83fcede8e629e01b828b2cd06d9066f"), looks := false }, kinds := [], alts := [], laidByText := true, laidKinds := [.data, .data, .data], laidTests := true, laidLooks := .later }
def Fp2rootTellsCardSaid : Prop := Claim7.holds Tryd.pinned (.plain (OpenSpec.ofChange fp2rootTellsSpec)) fp2rootTellsCard

/-- THE TIED CARD OF 'sigillaw08.Fp2rootBack'. -/
def fp2rootBackCard : Claim7 := { stood := { row := fp2rootBackRow, standIns := [], harness := (true, "1d18362ca5c070a22f5e0148104f891cb83fcede8e629e01b828b2cd06d9066f"), looks := false }, kinds := [], alts := [], laidByText := true, laidKinds := [.data, .data, .data], laidTests := true, laidLooks := .later }
def Fp2rootBackCardSaid : Prop := Claim7.holds Tryd.pinned (.plain (OpenSpec.ofChange fp2rootBackSpec)) fp2rootBackCard

/-- THE TIED CARD OF 'sigillaw08.Fp2rootNorms'. -/
def fp2rootNormsCard : Claim7 := { stood := { row := fp2rootNormsRow, standIns := [], harness := (true, "1d18362ca5c070a22f5e0148104f891cb83fcede8e629e01b828b2cd06d9066f"), looks := false }, kinds := [], alts := [], laidByText := true, laidKinds := [.data, .data, .data], laidTests := true, laidLooks := .later }
def Fp2rootNormsCardSaid : Prop := Claim7.holds Tryd.pinned (.plain (OpenSpec.ofChange fp2rootNormsSpec)) fp2rootNormsCard

/-- THE TIED CARD OF 'sigillaw08.Fp2rootProducts'. -/
def fp2rootProductsCard : Claim7 := { stood := { row := fp2rootProductsRow, standIns := [], harness := (true, "1d18362ca5c070a22f5e0148104f891cb83fcede8e629e01b828b2cd06d9066f"), looks := false }, kinds := [], alts := [], laidByText := true, laidKinds := [.data, .data, .data], laidTests := true, laidLooks := .later }
def Fp2rootProductsCardSaid : Prop := Claim7.holds Tryd.pinned (.plain (OpenSpec.ofChange fp2rootProductsSpec)) fp2rootProductsCard

/-- THE TIED CARD OF 'sigillaw08.Fp2rootSides'. -/
def fp2rootSidesCard : Claim7 := { stood := { row := fp2rootSidesRow, standIns := [], harness := (true, "1d18362ca5c070a22f5e0148104f891cb83fcede8e629e01b828b2cd06d9066f"), looks := false }, kinds := [], alts := [], laidByText := true, laidKinds := [.data, .data, .data], laidTests := true, laidLooks := .later }
def Fp2rootSidesCardSaid : Prop := Claim7.holds Tryd.pinned (.plain (OpenSpec.ofChange fp2rootSidesSpec)) fp2rootSidesCard

/-- THE SECOND FORM's CARD OF 'sigillaw08.Fp2rootTells'. -/
def fp2rootTellsUptoCard : Claim7 := { stood := { row := fp2rootTellsUptoRow, standIns := [], harness := (true, "1d18362ca5c070a22f5e0148104f891cb83fcede8e629e01b828b2cd06d9066f"), looks := false }, kinds := [], alts := [], laidByText := true, laidKinds := [.data, .data, .data], laidTests := true, laidLooks := .later }
def Fp2rootTellsUptoCardSaid : Prop := Claim7.holds Tryd.pinned (.plain (OpenSpec.upto fp2rootTellsSpec)) fp2rootTellsUptoCard

/-- THE SECOND FORM's CARD OF 'sigillaw08.Fp2rootBack'. -/
def fp2rootBackUptoCard : Claim7 := { stood := { row := fp2rootBackUptoRow, standIns := [], harness := (true, "1d18362ca5c070a22f5e0148104f891cb83fcede8e629e01b828b2cd06d9066f"), looks := false }, kinds := [], alts := [], laidByText := true, laidKinds := [.data, .data, .data], laidTests := true, laidLooks := .later }
def Fp2rootBackUptoCardSaid : Prop := Claim7.holds Tryd.pinned (.plain (OpenSpec.upto fp2rootBackSpec)) fp2rootBackUptoCard

/-- THE SECOND FORM's CARD OF 'sigillaw08.Fp2rootNorms'. -/
def fp2rootNormsUptoCard : Claim7 := { stood := { row := fp2rootNormsUptoRow, standIns := [], harness := (true, "1d18362ca5c070a22f5e0148104f891cb83fcede8e629e01b828b2cd06d9066f"), looks := false }, kinds := [], alts := [], laidByText := true, laidKinds := [.data, .data, .data], laidTests := true, laidLooks := .later }
def Fp2rootNormsUptoCardSaid : Prop := Claim7.holds Tryd.pinned (.plain (OpenSpec.upto fp2rootNormsSpec)) fp2rootNormsUptoCard

/-- THE SECOND FORM's CARD OF 'sigillaw08.Fp2rootProducts'. -/
def fp2rootProductsUptoCard : Claim7 := { stood := { row := fp2rootProductsUptoRow, standIns := [], harness := (true, "1d18362ca5c070a22f5e0148104f891cb83fcede8e629e01b828b2cd06d9066f"), looks := false }, kinds := [], alts := [], laidByText := true, laidKinds := [.data, .data, .data], laidTests := true, laidLooks := .later }
def Fp2rootProductsUptoCardSaid : Prop := Claim7.holds Tryd.pinned (.plain (OpenSpec.upto fp2rootProductsSpec)) fp2rootProductsUptoCard

/-- THE SECOND FORM's CARD OF 'sigillaw08.Fp2rootSides'. -/
def fp2rootSidesUptoCard : Claim7 := { stood := { row := fp2rootSidesUptoRow, standIns := [], harness := (true, "1d18362ca5c070a22f5e0148104f891cb83fcede8e629e01b828b2cd06d9066f"), looks := false }, kinds := [], alts := [], laidByText := true, laidKinds := [.data, .data, .data], laidTests := true, laidLooks := .later }
def Fp2rootSidesUptoCardSaid : Prop := Claim7.holds Tryd.pinned (.plain (OpenSpec.upto fp2rootSidesSpec)) fp2rootSidesUptoCard
end Rows
end Go.Proofs.YtoogmgckbalboaaDoor
