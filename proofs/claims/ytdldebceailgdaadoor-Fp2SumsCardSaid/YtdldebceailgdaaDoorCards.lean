/-
  DERIVED. GIVEN WITH THE SEED: THE CARDS: each row of YtdldebceailgdaaDoorRows.lean that lists a variable, with what it lists TIED to the program's text (the seventh form; the later family's looks); each row that meets fmt, with fmt's text TOLD by the authors' own Lean function (tested against real Go, not proved from fmt's source: count such statements apart). THE CARD IS WHAT COUNTS. Prove the row's statement (the work); the ties are given (YtdldebceailgdaaDoorTie.lean); close each card by the builder's one call (the guide's Derived/Test/ToyasCard.lean, 'card_holds'). Laid BY PROGRAM, IN A SANDBOX (cutbox-door.mjs). By AI agents, Wed Nov 11 2026. No macro, syntax, notation, axiom, sorry.
-/
import Derived.Test.YtdldebceailgdaaDoorRows
import GoSem.ClaimSeven
namespace Go.Proofs.YtdldebceailgdaaDoor
namespace Rows

/-- THE TIED CARD OF 'sigillaw07.Fp2Sums'. -/
def fp2SumsCard : Claim7 := { stood := { row := fp2SumsRow, standIns := [], harness := (true, "01e4f3b52ef1cf8278b728d15da88d32800e0e26d781aad99ce5fe423e1a2400"), looks := false }, kinds := [], alts := [], laidByText := true, laidKinds := [.data, .data, .data], laidTests := true, laidLooks := .later }
def Fp2SumsCardSaid : Prop := Claim7.holds Tryd.pinned (.plain (OpenSpec.ofChange fp2SumsSpec)) fp2SumsCard

/-- THE TIED CARD OF 'sigillaw07.Fp2Products'. -/
def fp2ProductsCard : Claim7 := { stood := { row := fp2ProductsRow, standIns := [], harness := (true, "01e4f3b52ef1cf8278b728d15da88d32800e0e26d781aad99ce5fe423e1a2400"), looks := false }, kinds := [], alts := [], laidByText := true, laidKinds := [.data, .data, .data], laidTests := true, laidLooks := .later }
def Fp2ProductsCardSaid : Prop := Claim7.holds Tryd.pinned (.plain (OpenSpec.ofChange fp2ProductsSpec)) fp2ProductsCard

/-- THE TIED CARD OF 'sigillaw07.Fp2Powers'. -/
def fp2PowersCard : Claim7 := { stood := { row := fp2PowersRow, standIns := [], harness := (true, "01e4f3b52ef1cf8278b728d15da88d32800e0e26d781aad99ce5fe423e1a2400"), looks := false }, kinds := [], alts := [], laidByText := true, laidKinds := [.data, .data, .data], laidTests := true, laidLooks := .later }
def Fp2PowersCardSaid : Prop := Claim7.holds Tryd.pinned (.plain (OpenSpec.ofChange fp2PowersSpec)) fp2PowersCard

/-- THE TIED CARD OF 'sigillaw07.Fp2Field'. -/
def fp2FieldCard : Claim7 := { stood := { row := fp2FieldRow, standIns := [], harness := (true, "01e4f3b52ef1cf8278b728d15da88d32800e0e26d781aad99ce5fe423e1a2400"), looks := false }, kinds := [], alts := [], laidByText := true, laidKinds := [.data, .data, .data], laidTests := true, laidLooks := .later }
def Fp2FieldCardSaid : Prop := Claim7.holds Tryd.pinned (.plain (OpenSpec.ofChange fp2FieldSpec)) fp2FieldCard

/-- THE TIED CARD OF 'sigillaw07.Fp2Inverse'. -/
def fp2InverseCard : Claim7 := { stood := { row := fp2InverseRow, standIns := [], harness := (true, "01e4f3b52ef1cf8278b728d15da88d32800e0e26d781aad99ce5fe423e1a2400"), looks := false }, kinds := [], alts := [], laidByText := true, laidKinds := [.data, .data, .data], laidTests := true, laidLooks := .later }
def Fp2InverseCardSaid : Prop := Claim7.holds Tryd.pinned (.plain (OpenSpec.ofChange fp2InverseSpec)) fp2InverseCard

/-- THE TIED CARD OF 'sigillaw07.Fp2Conjugates'. -/
def fp2ConjugatesCard : Claim7 := { stood := { row := fp2ConjugatesRow, standIns := [], harness := (true, "01e4f3b52ef1cf8278b728d15da88d32800e0e26d781aad99ce5fe423e1a2400"), looks := false }, kinds := [], alts := [], laidByText := true, laidKinds := [.data, .data, .data], laidTests := true, laidLooks := .later }
def Fp2ConjugatesCardSaid : Prop := Claim7.holds Tryd.pinned (.plain (OpenSpec.ofChange fp2ConjugatesSpec)) fp2ConjugatesCard

/-- THE TIED CARD OF 'sigillaw07.Fp2Frobenius'. -/
def fp2FrobeniusCard : Claim7 := { stood := { row := fp2FrobeniusRow, standIns := [], harness := (true, "01e4f3b52ef1cf8278b728d15da88d32800e0e26d781aad99ce5fe423e1a2400"), looks := false }, kinds := [], alts := [], laidByText := true, laidKinds := [.data, .data, .data], laidTests := true, laidLooks := .later }
def Fp2FrobeniusCardSaid : Prop := Claim7.holds Tryd.pinned (.plain (OpenSpec.ofChange fp2FrobeniusSpec)) fp2FrobeniusCard

/-- THE TIED CARD OF 'sigillaw07.Fp2Parts'. -/
def fp2PartsCard : Claim7 := { stood := { row := fp2PartsRow, standIns := [], harness := (true, "01e4f3b52ef1cf8278b728d15da88d32800e0e26d781aad99ce5fe423e1a2400"), looks := false }, kinds := [], alts := [], laidByText := true, laidKinds := [.data, .data, .data], laidTests := true, laidLooks := .later }
def Fp2PartsCardSaid : Prop := Claim7.holds Tryd.pinned (.plain (OpenSpec.ofChange fp2PartsSpec)) fp2PartsCard

/-- THE SECOND FORM's CARD OF 'sigillaw07.Fp2Sums'. -/
def fp2SumsUptoCard : Claim7 := { stood := { row := fp2SumsUptoRow, standIns := [], harness := (true, "01e4f3b52ef1cf8278b728d15da88d32800e0e26d781aad99ce5fe423e1a2400"), looks := false }, kinds := [], alts := [], laidByText := true, laidKinds := [.data, .data, .data], laidTests := true, laidLooks := .later }
def Fp2SumsUptoCardSaid : Prop := Claim7.holds Tryd.pinned (.plain (OpenSpec.upto fp2SumsSpec)) fp2SumsUptoCard

/-- THE SECOND FORM's CARD OF 'sigillaw07.Fp2Products'. -/
def fp2ProductsUptoCard : Claim7 := { stood := { row := fp2ProductsUptoRow, standIns := [], harness := (true, "01e4f3b52ef1cf8278b728d15da88d32800e0e26d781aad99ce5fe423e1a2400"), looks := false }, kinds := [], alts := [], laidByText := true, laidKinds := [.data, .data, .data], laidTests := true, laidLooks := .later }
def Fp2ProductsUptoCardSaid : Prop := Claim7.holds Tryd.pinned (.plain (OpenSpec.upto fp2ProductsSpec)) fp2ProductsUptoCard

/-- THE SECOND FORM's CARD OF 'sigillaw07.Fp2Powers'. -/
def fp2PowersUptoCard : Claim7 := { stood := { row := fp2PowersUptoRow, standIns := [], harness := (true, "01e4f3b52ef1cf8278b728d15da88d32800e0e26d781aad99ce5fe423e1a2400"), looks := false }, kinds := [], alts := [], laidByText := true, laidKinds := [.data, .data, .data], laidTests := true, laidLooks := .later }
def Fp2PowersUptoCardSaid : Prop := Claim7.holds Tryd.pinned (.plain (OpenSpec.upto fp2PowersSpec)) fp2PowersUptoCard

/-- THE SECOND FORM's CARD OF 'sigillaw07.Fp2Field'. -/
def fp2FieldUptoCard : Claim7 := { stood := { row := fp2FieldUptoRow, standIns := [], harness := (true, "01e4f3b52ef1cf8278b728d15da88d32800e0e26d781aad99ce5fe423e1a2400"), looks := false }, kinds := [], alts := [], laidByText := true, laidKinds := [.data, .data, .data], laidTests := true, laidLooks := .later }
def Fp2FieldUptoCardSaid : Prop := Claim7.holds Tryd.pinned (.plain (OpenSpec.upto fp2FieldSpec)) fp2FieldUptoCard

/-- THE SECOND FORM's CARD OF 'sigillaw07.Fp2Inverse'. -/
def fp2InverseUptoCard : Claim7 := { stood := { row := fp2InverseUptoRow, standIns := [], harness := (true, "01e4f3b52ef1cf8278b728d15da88d32800e0e26d781aad99ce5fe423e1a2400"), looks := false }, kinds := [], alts := [], laidByText := true, laidKinds := [.data, .data, .data], laidTests := true, laidLooks := .later }
def Fp2InverseUptoCardSaid : Prop := Claim7.holds Tryd.pinned (.plain (OpenSpec.upto fp2InverseSpec)) fp2InverseUptoCard

/-- THE SECOND FORM's CARD OF 'sigillaw07.Fp2Conjugates'. -/
def fp2ConjugatesUptoCard : Claim7 := { stood := { row := fp2ConjugatesUptoRow, standIns := [], harness := (true, "01e4f3b52ef1cf8278b728d15da88d32800e0e26d781aad99ce5fe423e1a2400"), looks := false }, kinds := [], alts := [], laidByText := true, laidKinds := [.data, .data, .data], laidTests := true, laidLooks := .later }
def Fp2ConjugatesUptoCardSaid : Prop := Claim7.holds Tryd.pinned (.plain (OpenSpec.upto fp2ConjugatesSpec)) fp2ConjugatesUptoCard

/-- THE SECOND FORM's CARD OF 'sigillaw07.Fp2Frobenius'. -/
def fp2FrobeniusUptoCard : Claim7 := { stood := { row := fp2FrobeniusUptoRow, standIns := [], harness := (true, "01e4f3b52ef1cf8278b728d15da88d32800e0e26d781aad99ce5fe423e1a2400"), looks := false }, kinds := [], alts := [], laidByText := true, laidKinds := [.data, .data, .data], laidTests := true, laidLooks := .later }
def Fp2FrobeniusUptoCardSaid : Prop := Claim7.holds Tryd.pinned (.plain (OpenSpec.upto fp2FrobeniusSpec)) fp2FrobeniusUptoCard

/-- THE SECOND FORM's CARD OF 'sigillaw07.Fp2Parts'. -/
def fp2PartsUptoCard : Claim7 := { stood := { row := fp2PartsUptoRow, standIns := [], harness := (true, "01e4f3b52ef1cf8278b728d15da88d32800e0e26d781aad99ce5fe423e1a2400"), looks := false }, kinds := [], alts := [], laidByText := true, laidKinds := [.data, .data, .data], laidTests := true, laidLooks := .later }
def Fp2PartsUptoCardSaid : Prop := Claim7.holds Tryd.pinned (.plain (OpenSpec.upto fp2PartsSpec)) fp2PartsUptoCard
end Rows
end Go.Proofs.YtdldebceailgdaaDoor
