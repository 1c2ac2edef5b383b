/-
  DERIVED. GIVEN WITH THE SEED: THE CARDS: each row of YtpkbbdhpdplkeaaDoorRows.lean that lists a variable, with what it lists TIED to the program's text (the seventh form; the later family's looks); each row that meets fmt, with fmt's text TOLD by the authors' own Lean function (tested against real Go, not proved from fmt's source: count such statements apart). THE CARD IS WHAT COUNTS. Prove the row's statement (the work); the ties are given (YtpkbbdhpdplkeaaDoorTie.lean); close each card by the builder's one call (the guide's Derived/Test/ToyasCard.lean, 'card_holds'). Laid BY PROGRAM, IN A SANDBOX (cutbox-door.mjs). By AI agents, Wed Nov 11 2026. No macro, syntax, notation, axiom, sorry.
-/
import Derived.Test.YtpkbbdhpdplkeaaDoorRows
import GoSem.ClaimSeven
namespace Go.Proofs.YtpkbbdhpdplkeaaDoor
namespace Rows

/-- THE TIED CARD OF 'sigillaw09.Fp6Sums'. -/
def fp6SumsCard : Claim7 := { stood := { row := fp6SumsRow, standIns := [], harness := (true, "6ae1188c500c98ac668a921a26af96758b5876129305cc7810e0b534b960f934"), looks := false }, kinds := [], alts := [], laidByText := true, laidKinds := [.data, .data, .data], laidTests := true, laidLooks := .later }
def Fp6SumsCardSaid : Prop := Claim7.holds Tryd.pinned (.plain (OpenSpec.ofChange fp6SumsSpec)) fp6SumsCard

/-- THE TIED CARD OF 'sigillaw09.Fp6Products'. -/
def fp6ProductsCard : Claim7 := { stood := { row := fp6ProductsRow, standIns := [], harness := (true, "6ae1188c500c98ac668a921a26af96758b5876129305cc7810e0b534b960f934"), looks := false }, kinds := [], alts := [], laidByText := true, laidKinds := [.data, .data, .data], laidTests := true, laidLooks := .later }
def Fp6ProductsCardSaid : Prop := Claim7.holds Tryd.pinned (.plain (OpenSpec.ofChange fp6ProductsSpec)) fp6ProductsCard

/-- THE TIED CARD OF 'sigillaw09.Fp6Field'. -/
def fp6FieldCard : Claim7 := { stood := { row := fp6FieldRow, standIns := [], harness := (true, "6ae1188c500c98ac668a921a26af96758b5876129305cc7810e0b534b960f934"), looks := false }, kinds := [], alts := [], laidByText := true, laidKinds := [.data, .data, .data], laidTests := true, laidLooks := .later }
def Fp6FieldCardSaid : Prop := Claim7.holds Tryd.pinned (.plain (OpenSpec.ofChange fp6FieldSpec)) fp6FieldCard

/-- THE TIED CARD OF 'sigillaw09.Fp6Inverse'. -/
def fp6InverseCard : Claim7 := { stood := { row := fp6InverseRow, standIns := [], harness := (true, "6ae1188c500c98ac668a921a26af96758b5876129305cc7810e0b534b960f934"), looks := false }, kinds := [], alts := [], laidByText := true, laidKinds := [.data, .data, .data], laidTests := true, laidLooks := .later }
def Fp6InverseCardSaid : Prop := Claim7.holds Tryd.pinned (.plain (OpenSpec.ofChange fp6InverseSpec)) fp6InverseCard

/-- THE TIED CARD OF 'sigillaw09.Fp6Turns'. -/
def fp6TurnsCard : Claim7 := { stood := { row := fp6TurnsRow, standIns := [], harness := (true, "6ae1188c500c98ac668a921a26af96758b5876129305cc7810e0b534b960f934"), looks := false }, kinds := [], alts := [], laidByText := true, laidKinds := [.data, .data, .data], laidTests := true, laidLooks := .later }
def Fp6TurnsCardSaid : Prop := Claim7.holds Tryd.pinned (.plain (OpenSpec.ofChange fp6TurnsSpec)) fp6TurnsCard

/-- THE TIED CARD OF 'sigillaw09.Fp6Within'. -/
def fp6WithinCard : Claim7 := { stood := { row := fp6WithinRow, standIns := [], harness := (true, "6ae1188c500c98ac668a921a26af96758b5876129305cc7810e0b534b960f934"), looks := false }, kinds := [], alts := [], laidByText := true, laidKinds := [.data, .data, .data], laidTests := true, laidLooks := .later }
def Fp6WithinCardSaid : Prop := Claim7.holds Tryd.pinned (.plain (OpenSpec.ofChange fp6WithinSpec)) fp6WithinCard

/-- THE SECOND FORM's CARD OF 'sigillaw09.Fp6Sums'. -/
def fp6SumsUptoCard : Claim7 := { stood := { row := fp6SumsUptoRow, standIns := [], harness := (true, "6ae1188c500c98ac668a921a26af96758b5876129305cc7810e0b534b960f934"), looks := false }, kinds := [], alts := [], laidByText := true, laidKinds := [.data, .data, .data], laidTests := true, laidLooks := .later }
def Fp6SumsUptoCardSaid : Prop := Claim7.holds Tryd.pinned (.plain (OpenSpec.upto fp6SumsSpec)) fp6SumsUptoCard

/-- THE SECOND FORM's CARD OF 'sigillaw09.Fp6Products'. -/
def fp6ProductsUptoCard : Claim7 := { stood := { row := fp6ProductsUptoRow, standIns := [], harness := (true, "6ae1188c500c98ac668a921a26af96758b5876129305cc7810e0b534b960f934"), looks := false }, kinds := [], alts := [], laidByText := true, laidKinds := [.data, .data, .data], laidTests := true, laidLooks := .later }
def Fp6ProductsUptoCardSaid : Prop := Claim7.holds Tryd.pinned (.plain (OpenSpec.upto fp6ProductsSpec)) fp6ProductsUptoCard

/-- THE SECOND FORM's CARD OF 'sigillaw09.Fp6Field'. -/
def fp6FieldUptoCard : Claim7 := { stood := { row := fp6FieldUptoRow, standIns := [], harness := (true, "6ae1188c500c98ac668a921a26af96758b5876129305cc7810e0b534b960f934"), looks := false }, kinds := [], alts := [], laidByText := true, laidKinds := [.data, .data, .data], laidTests := true, laidLooks := .later }
def Fp6FieldUptoCardSaid : Prop := Claim7.holds Tryd.pinned (.plain (OpenSpec.upto fp6FieldSpec)) fp6FieldUptoCard

/-- THE SECOND FORM's CARD OF 'sigillaw09.Fp6Inverse'. -/
def fp6InverseUptoCard : Claim7 := { stood := { row := fp6InverseUptoRow, standIns := [], harness := (true, "6ae1188c500c98ac668a921a26af96758b5876129305cc7810e0b534b960f934"), looks := false }, kinds := [], alts := [], laidByText := true, laidKinds := [.data, .data, .data], laidTests := true, laidLooks := .later }
def Fp6InverseUptoCardSaid : Prop := Claim7.holds Tryd.pinned (.plain (OpenSpec.upto fp6InverseSpec)) fp6InverseUptoCard

/-- THE SECOND FORM's CARD OF 'sigillaw09.Fp6Turns'. -/
def fp6TurnsUptoCard : Claim7 := { stood := { row := fp6TurnsUptoRow, standIns := [], harness := (true, "6ae1188c500c98ac668a921a26af96758b5876129305cc7810e0b534b960f934"), looks := false }, kinds := [], alts := [], laidByText := true, laidKinds := [.data, .data, .data], laidTests := true, laidLooks := .later }
def Fp6TurnsUptoCardSaid : Prop := Claim7.holds Tryd.pinned (.plain (OpenSpec.upto fp6TurnsSpec)) fp6TurnsUptoCard

/-- THE SECOND FORM's CARD OF 'sigillaw09.Fp6Within'. -/
def fp6WithinUptoCard : Claim7 := { stood := { row := fp6WithinUptoRow, standIns := [], harness := (true, "6ae1188c500c98ac668a921a26af96758b5876129305cc7810e0b534b960f934"), looks := false }, kinds := [], alts := [], laidByText := true, laidKinds := [.data, .data, .data], laidTests := true, laidLooks := .later }
def Fp6WithinUptoCardSaid : Prop := Claim7.holds Tryd.pinned (.plain (OpenSpec.upto fp6WithinSpec)) fp6WithinUptoCard
end Rows
end Go.Proofs.YtpkbbdhpdplkeaaDoor
