/-
  DERIVED. GIVEN WITH THE SEED: THE CARDS: each row of YtmohopjblhgdiaaDoorRows.lean that lists a variable, with what it lists TIED to the program's text (the seventh form; the later family's looks); each row that meets fmt, with fmt's text TOLD by the authors' own Lean function (tested against real Go, not proved from fmt's source: count such statements apart). THE CARD IS WHAT COUNTS. Prove the row's statement (the work); the ties are given (YtmohopjblhgdiaaDoorTie.lean); close each card by the builder's one call (the guide's Derived/Test/ToyasCard.lean, 'card_holds'). Laid BY PROGRAM, IN A SANDBOX (cutbox-door.mjs). By AI agents, Wed Nov 11 2026. No macro, syntax, notation, axiom, sorry.
-/
import Derived.Test.YtmohopjblhgdiaaDoorRows
import GoSem.ClaimSeven
namespace Go.Proofs.YtmohopjblhgdiaaDoor
namespace Rows

/-- THE TIED CARD OF 'sigillaw15.MillerLines'. -/
def millerLinesCard : Claim7 := { stood := { row := millerLinesRow, standIns := [], harness := (true, "ff49196f34dd66e6cbc026204729dba88444503770ba9a98c21ee5bdb123eea4"), looks := false }, kinds := [], alts := [], laidByText := true, laidKinds := [.data, .data, .data], laidTests := true, laidLooks := .later }
def MillerLinesCardSaid : Prop := Claim7.holds Tryd.pinned (.plain (OpenSpec.ofChange millerLinesSpec)) millerLinesCard

/-- THE TIED CARD OF 'sigillaw15.MillerSums'. -/
def millerSumsCard : Claim7 := { stood := { row := millerSumsRow, standIns := [], harness := (true, "ff49196f34dd66e6cbc026204729dba88444503770ba9a98c21ee5bdb123eea4"), looks := false }, kinds := [], alts := [], laidByText := true, laidKinds := [.data, .data, .data], laidTests := true, laidLooks := .later }
def MillerSumsCardSaid : Prop := Claim7.holds Tryd.pinned (.plain (OpenSpec.ofChange millerSumsSpec)) millerSumsCard

/-- THE TIED CARD OF 'sigillaw15.MillerThrough'. -/
def millerThroughCard : Claim7 := { stood := { row := millerThroughRow, standIns := [], harness := (true, "ff49196f34dd66e6cbc026204729dba88444503770ba9a98c21ee5bdb123eea4"), looks := false }, kinds := [], alts := [], laidByText := true, laidKinds := [.data, .data, .data], laidTests := true, laidLooks := .later }
def MillerThroughCardSaid : Prop := Claim7.holds Tryd.pinned (.plain (OpenSpec.ofChange millerThroughSpec)) millerThroughCard

/-- THE TIED CARD OF 'sigillaw15.MillerNone'. -/
def millerNoneCard : Claim7 := { stood := { row := millerNoneRow, standIns := [], harness := (true, "ff49196f34dd66e6cbc026204729dba88444503770ba9a98c21ee5bdb123eea4"), looks := false }, kinds := [], alts := [], laidByText := true, laidKinds := [.data, .data, .data], laidTests := true, laidLooks := .later }
def MillerNoneCardSaid : Prop := Claim7.holds Tryd.pinned (.plain (OpenSpec.ofChange millerNoneSpec)) millerNoneCard

/-- THE SECOND FORM's CARD OF 'sigillaw15.MillerLines'. -/
def millerLinesUptoCard : Claim7 := { stood := { row := millerLinesUptoRow, standIns := [], harness := (true, "ff49196f34dd66e6cbc026204729dba88444503770ba9a98c21ee5bdb123eea4"), looks := false }, kinds := [], alts := [], laidByText := true, laidKinds := [.data, .data, .data], laidTests := true, laidLooks := .later }
def MillerLinesUptoCardSaid : Prop := Claim7.holds Tryd.pinned (.plain (OpenSpec.upto millerLinesSpec)) millerLinesUptoCard

/-- THE SECOND FORM's CARD OF 'sigillaw15.MillerSums'. -/
def millerSumsUptoCard : Claim7 := { stood := { row := millerSumsUptoRow, standIns := [], harness := (true, "ff49196f34dd66e6cbc026204729dba88444503770ba9a98c21ee5bdb123eea4"), looks := false }, kinds := [], alts := [], laidByText := true, laidKinds := [.data, .data, .data], laidTests := true, laidLooks := .later }
def MillerSumsUptoCardSaid : Prop := Claim7.holds Tryd.pinned (.plain (OpenSpec.upto millerSumsSpec)) millerSumsUptoCard

/-- THE SECOND FORM's CARD OF 'sigillaw15.MillerThrough'. -/
def millerThroughUptoCard : Claim7 := { stood := { row := millerThroughUptoRow, standIns := [], harness := (true, "ff49196f34dd66e6cbc026204729dba88444503770ba9a98c21ee5bdb123eea4"), looks := false }, kinds := [], alts := [], laidByText := true, laidKinds := [.data, .data, .data], laidTests := true, laidLooks := .later }
def MillerThroughUptoCardSaid : Prop := Claim7.holds Tryd.pinned (.plain (OpenSpec.upto millerThroughSpec)) millerThroughUptoCard

/-- THE SECOND FORM's CARD OF 'sigillaw15.MillerNone'. -/
def millerNoneUptoCard : Claim7 := { stood := { row := millerNoneUptoRow, standIns := [], harness := (true, "ff49196f34dd66e6cbc026204729dba88444503770ba9a98c21ee5bdb123eea4"), looks := false }, kinds := [], alts := [], laidByText := true, laidKinds := [.data, .data, .data], laidTests := true, laidLooks := .later }
def MillerNoneUptoCardSaid : Prop := Claim7.holds Tryd.pinned (.plain (OpenSpec.upto millerNoneSpec)) millerNoneUptoCard
end Rows
end Go.Proofs.YtmohopjblhgdiaaDoor
