/-
  DERIVED. GIVEN WITH THE SEED: THE CARDS: each row of YtpgphhinelljoaaDoorRows.lean that lists a variable, with what it lists TIED to the program's text (the seventh form; the later family's looks); each row that meets fmt, with fmt's text TOLD by the authors' own Lean function (tested against real Go, not proved from fmt's source: count such statements apart). THE CARD IS WHAT COUNTS. Prove the row's statement (the work); the ties are given (YtpgphhinelljoaaDoorTie.lean); close each card by the builder's one call (the guide's Derived/Test/ToyasCard.lean, 'card_holds'). Laid BY PROGRAM, IN A SANDBOX (cutbox-door.mjs). By AI agents, Wed Nov 11 2026. No macro, syntax, notation, axiom, sorry.
-/
import Derived.Test.YtpgphhinelljoaaDoorRows
import GoSem.ClaimSeven
namespace Go.Proofs.YtpgphhinelljoaaDoor
namespace Rows

/-- THE TIED CARD OF 'sigillaw14.SubOrders'. -/
def subOrdersCard : Claim7 := { stood := { row := subOrdersRow, standIns := [], harness := (true, "0363dfa3dc2b92636294df9e1777b5e2b06174641fd307912e1c1f020cf7d7f6"), looks := false }, kinds := [], alts := [], laidByText := true, laidKinds := [.data, .data, .data, .data, .data, .data], laidTests := true, laidLooks := .later }
def SubOrdersCardSaid : Prop := Claim7.holds Tryd.pinned (.plain (OpenSpec.ofChange subOrdersSpec)) subOrdersCard

/-- THE TIED CARD OF 'sigillaw14.SubGroups'. -/
def subGroupsCard : Claim7 := { stood := { row := subGroupsRow, standIns := [], harness := (true, "0363dfa3dc2b92636294df9e1777b5e2b06174641fd307912e1c1f020cf7d7f6"), looks := false }, kinds := [], alts := [], laidByText := true, laidKinds := [.data, .data, .data, .data, .data, .data], laidTests := true, laidLooks := .later }
def SubGroupsCardSaid : Prop := Claim7.holds Tryd.pinned (.plain (OpenSpec.ofChange subGroupsSpec)) subGroupsCard

/-- THE TIED CARD OF 'sigillaw14.SubImages'. -/
def subImagesCard : Claim7 := { stood := { row := subImagesRow, standIns := [], harness := (true, "0363dfa3dc2b92636294df9e1777b5e2b06174641fd307912e1c1f020cf7d7f6"), looks := false }, kinds := [], alts := [], laidByText := true, laidKinds := [.data, .data, .data, .data, .data, .data], laidTests := true, laidLooks := .later }
def SubImagesCardSaid : Prop := Claim7.holds Tryd.pinned (.plain (OpenSpec.ofChange subImagesSpec)) subImagesCard

/-- THE TIED CARD OF 'sigillaw14.SubCurves'. -/
def subCurvesCard : Claim7 := { stood := { row := subCurvesRow, standIns := [], harness := (true, "0363dfa3dc2b92636294df9e1777b5e2b06174641fd307912e1c1f020cf7d7f6"), looks := false }, kinds := [], alts := [], laidByText := true, laidKinds := [.data, .data, .data, .data, .data, .data], laidTests := true, laidLooks := .later }
def SubCurvesCardSaid : Prop := Claim7.holds Tryd.pinned (.plain (OpenSpec.ofChange subCurvesSpec)) subCurvesCard

/-- THE TIED CARD OF 'sigillaw14.SubTimes'. -/
def subTimesCard : Claim7 := { stood := { row := subTimesRow, standIns := [], harness := (true, "0363dfa3dc2b92636294df9e1777b5e2b06174641fd307912e1c1f020cf7d7f6"), looks := false }, kinds := [], alts := [], laidByText := true, laidKinds := [.data, .data, .data, .data, .data, .data], laidTests := true, laidLooks := .later }
def SubTimesCardSaid : Prop := Claim7.holds Tryd.pinned (.plain (OpenSpec.ofChange subTimesSpec)) subTimesCard

/-- THE SECOND FORM's CARD OF 'sigillaw14.SubOrders'. -/
def subOrdersUptoCard : Claim7 := { stood := { row := subOrdersUptoRow, standIns := [], harness := (true, "0363dfa3dc2b92636294df9e1777b5e2b06174641fd307912e1c1f020cf7d7f6"), looks := false }, kinds := [], alts := [], laidByText := true, laidKinds := [.data, .data, .data, .data, .data, .data], laidTests := true, laidLooks := .later }
def SubOrdersUptoCardSaid : Prop := Claim7.holds Tryd.pinned (.plain (OpenSpec.upto subOrdersSpec)) subOrdersUptoCard

/-- THE SECOND FORM's CARD OF 'sigillaw14.SubGroups'. -/
def subGroupsUptoCard : Claim7 := { stood := { row := subGroupsUptoRow, standIns := [], harness := (true, "0363dfa3dc2b92636294df9e1777b5e2b06174641fd307912e1c1f020cf7d7f6"), looks := false }, kinds := [], alts := [], laidByText := true, laidKinds := [.data, .data, .data, .data, .data, .data], laidTests := true, laidLooks := .later }
def SubGroupsUptoCardSaid : Prop := Claim7.holds Tryd.pinned (.plain (OpenSpec.upto subGroupsSpec)) subGroupsUptoCard

/-- THE SECOND FORM's CARD OF 'sigillaw14.SubImages'. -/
def subImagesUptoCard : Claim7 := { stood := { row := subImagesUptoRow, standIns := [], harness := (true, "0363dfa3dc2b92636294df9e1777b5e2b06174641fd307912e1c1f020cf7d7f6"), looks := false }, kinds := [], alts := [], laidByText := true, laidKinds := [.data, .data, .data, .data, .data, .data], laidTests := true, laidLooks := .later }
def SubImagesUptoCardSaid : Prop := Claim7.holds Tryd.pinned (.plain (OpenSpec.upto subImagesSpec)) subImagesUptoCard

/-- THE SECOND FORM's CARD OF 'sigillaw14.SubCurves'. -/
def subCurvesUptoCard : Claim7 := { stood := { row := subCurvesUptoRow, standIns := [], harness := (true, "0363dfa3dc2b92636294df9e1777b5e2b06174641fd307912e1c1f020cf7d7f6"), looks := false }, kinds := [], alts := [], laidByText := true, laidKinds := [.data, .data, .data, .data, .data, .data], laidTests := true, laidLooks := .later }
def SubCurvesUptoCardSaid : Prop := Claim7.holds Tryd.pinned (.plain (OpenSpec.upto subCurvesSpec)) subCurvesUptoCard

/-- THE SECOND FORM's CARD OF 'sigillaw14.SubTimes'. -/
def subTimesUptoCard : Claim7 := { stood := { row := subTimesUptoRow, standIns := [], harness := (true, "0363dfa3dc2b92636294df9e1777b5e2b06174641fd307912e1c1f020cf7d7f6"), looks := false }, kinds := [], alts := [], laidByText := true, laidKinds := [.data, .data, .data, .data, .data, .data], laidTests := true, laidLooks := .later }
def SubTimesUptoCardSaid : Prop := Claim7.holds Tryd.pinned (.plain (OpenSpec.upto subTimesSpec)) subTimesUptoCard
end Rows
end Go.Proofs.YtpgphhinelljoaaDoor
