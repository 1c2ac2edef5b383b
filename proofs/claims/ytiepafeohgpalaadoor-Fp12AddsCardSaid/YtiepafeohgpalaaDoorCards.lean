/-
  DERIVED. GIVEN WITH THE SEED: THE CARDS: each row of YtiepafeohgpalaaDoorRows.lean that lists a variable, with what it lists TIED to the program's text (the seventh form; the later family's looks); each row that meets fmt, with fmt's text TOLD by the authors' own Lean function (tested against real Go, not proved from fmt's source: count such statements apart). THE CARD IS WHAT COUNTS. Prove the row's statement (the work); the ties are given (YtiepafeohgpalaaDoorTie.lean); close each card by the builder's one call (the guide's Derived/Test/ToyasCard.lean, 'card_holds'). Laid BY PROGRAM, IN A SANDBOX (cutbox-door.mjs). By AI agents, Wed Nov 11 2026. No macro, syntax, notation, axiom, sorry.
-/
import Derived.Test.YtiepafeohgpalaaDoorRows
import GoSem.ClaimSeven
namespace Go.Proofs.YtiepafeohgpalaaDoor
namespace Rows

/-- THE TIED CARD OF 'sigillaw10.Fp12Sums'. -/
def fp12SumsCard : Claim7 := { stood := { row := fp12SumsRow, standIns := [], harness := (true, "2f8a0f460be83a2f2d65cf98c4870311c487334b8cf39db395da21dc0a174bec"), looks := false }, kinds := [], alts := [], laidByText := true, laidKinds := [.data, .data, .data], laidTests := true, laidLooks := .later }
def Fp12SumsCardSaid : Prop := Claim7.holds Tryd.pinned (.plain (OpenSpec.ofChange fp12SumsSpec)) fp12SumsCard

/-- THE TIED CARD OF 'sigillaw10.Fp12Products'. -/
def fp12ProductsCard : Claim7 := { stood := { row := fp12ProductsRow, standIns := [], harness := (true, "2f8a0f460be83a2f2d65cf98c4870311c487334b8cf39db395da21dc0a174bec"), looks := false }, kinds := [], alts := [], laidByText := true, laidKinds := [.data, .data, .data], laidTests := true, laidLooks := .later }
def Fp12ProductsCardSaid : Prop := Claim7.holds Tryd.pinned (.plain (OpenSpec.ofChange fp12ProductsSpec)) fp12ProductsCard

/-- THE TIED CARD OF 'sigillaw10.Fp12Powers'. -/
def fp12PowersCard : Claim7 := { stood := { row := fp12PowersRow, standIns := [], harness := (true, "2f8a0f460be83a2f2d65cf98c4870311c487334b8cf39db395da21dc0a174bec"), looks := false }, kinds := [], alts := [], laidByText := true, laidKinds := [.data, .data, .data], laidTests := true, laidLooks := .later }
def Fp12PowersCardSaid : Prop := Claim7.holds Tryd.pinned (.plain (OpenSpec.ofChange fp12PowersSpec)) fp12PowersCard

/-- THE TIED CARD OF 'sigillaw10.Fp12Field'. -/
def fp12FieldCard : Claim7 := { stood := { row := fp12FieldRow, standIns := [], harness := (true, "2f8a0f460be83a2f2d65cf98c4870311c487334b8cf39db395da21dc0a174bec"), looks := false }, kinds := [], alts := [], laidByText := true, laidKinds := [.data, .data, .data], laidTests := true, laidLooks := .later }
def Fp12FieldCardSaid : Prop := Claim7.holds Tryd.pinned (.plain (OpenSpec.ofChange fp12FieldSpec)) fp12FieldCard

/-- THE TIED CARD OF 'sigillaw10.Fp12Inverse'. -/
def fp12InverseCard : Claim7 := { stood := { row := fp12InverseRow, standIns := [], harness := (true, "2f8a0f460be83a2f2d65cf98c4870311c487334b8cf39db395da21dc0a174bec"), looks := false }, kinds := [], alts := [], laidByText := true, laidKinds := [.data, .data, .data], laidTests := true, laidLooks := .later }
def Fp12InverseCardSaid : Prop := Claim7.holds Tryd.pinned (.plain (OpenSpec.ofChange fp12InverseSpec)) fp12InverseCard

/-- THE TIED CARD OF 'sigillaw10.Fp12Conjugates'. -/
def fp12ConjugatesCard : Claim7 := { stood := { row := fp12ConjugatesRow, standIns := [], harness := (true, "2f8a0f460be83a2f2d65cf98c4870311c487334b8cf39db395da21dc0a174bec"), looks := false }, kinds := [], alts := [], laidByText := true, laidKinds := [.data, .data, .data], laidTests := true, laidLooks := .later }
def Fp12ConjugatesCardSaid : Prop := Claim7.holds Tryd.pinned (.plain (OpenSpec.ofChange fp12ConjugatesSpec)) fp12ConjugatesCard

/-- THE TIED CARD OF 'sigillaw10.Fp12Adds'. -/
def fp12AddsCard : Claim7 := { stood := { row := fp12AddsRow, standIns := [], harness := (true, "2f8a0f460be83a2f2d65cf98c4870311c487334b8cf39db395da21dc0a174bec"), looks := false }, kinds := [], alts := [], laidByText := true, laidKinds := [.data, .data, .data], laidTests := true, laidLooks := .later }
def Fp12AddsCardSaid : Prop := Claim7.holds Tryd.pinned (.plain (OpenSpec.ofChange fp12AddsSpec)) fp12AddsCard

/-- THE TIED CARD OF 'sigillaw10.Fp12Within'. -/
def fp12WithinCard : Claim7 := { stood := { row := fp12WithinRow, standIns := [], harness := (true, "2f8a0f460be83a2f2d65cf98c4870311c487334b8cf39db395da21dc0a174bec"), looks := false }, kinds := [], alts := [], laidByText := true, laidKinds := [.data, .data, .data], laidTests := true, laidLooks := .later }
def Fp12WithinCardSaid : Prop := Claim7.holds Tryd.pinned (.plain (OpenSpec.ofChange fp12WithinSpec)) fp12WithinCard

/-- THE SECOND FORM's CARD OF 'sigillaw10.Fp12Sums'. -/
def fp12SumsUptoCard : Claim7 := { stood := { row := fp12SumsUptoRow, standIns := [], harness := (true, "2f8a0f460be83a2f2d65cf98c4870311c487334b8cf39db395da21dc0a174bec"), looks := false }, kinds := [], alts := [], laidByText := true, laidKinds := [.data, .data, .data], laidTests := true, laidLooks := .later }
def Fp12SumsUptoCardSaid : Prop := Claim7.holds Tryd.pinned (.plain (OpenSpec.upto fp12SumsSpec)) fp12SumsUptoCard

/-- THE SECOND FORM's CARD OF 'sigillaw10.Fp12Products'. -/
def fp12ProductsUptoCard : Claim7 := { stood := { row := fp12ProductsUptoRow, standIns := [], harness := (true, "2f8a0f460be83a2f2d65cf98c4870311c487334b8cf39db395da21dc0a174bec"), looks := false }, kinds := [], alts := [], laidByText := true, laidKinds := [.data, .data, .data], laidTests := true, laidLooks := .later }
def Fp12ProductsUptoCardSaid : Prop := Claim7.holds Tryd.pinned (.plain (OpenSpec.upto fp12ProductsSpec)) fp12ProductsUptoCard

/-- THE SECOND FORM's CARD OF 'sigillaw10.Fp12Powers'. -/
def fp12PowersUptoCard : Claim7 := { stood := { row := fp12PowersUptoRow, standIns := [], harness := (true, "2f8a0f460be83a2f2d65cf98c4870311c487334b8cf39db395da21dc0a174bec"), looks := false }, kinds := [], alts := [], laidByText := true, laidKinds := [.data, .data, .data], laidTests := true, laidLooks := .later }
def Fp12PowersUptoCardSaid : Prop := Claim7.holds Tryd.pinned (.plain (OpenSpec.upto fp12PowersSpec)) fp12PowersUptoCard

/-- THE SECOND FORM's CARD OF 'sigillaw10.Fp12Field'. -/
def fp12FieldUptoCard : Claim7 := { stood := { row := fp12FieldUptoRow, standIns := [], harness := (true, "2f8a0f460be83a2f2d65cf98c4870311c487334b8cf39db395da21dc0a174bec"), looks := false }, kinds := [], alts := [], laidByText := true, laidKinds := [.data, .data, .data], laidTests := true, laidLooks := .later }
def Fp12FieldUptoCardSaid : Prop := Claim7.holds Tryd.pinned (.plain (OpenSpec.upto fp12FieldSpec)) fp12FieldUptoCard

/-- THE SECOND FORM's CARD OF 'sigillaw10.Fp12Inverse'. -/
def fp12InverseUptoCard : Claim7 := { stood := { row := fp12InverseUptoRow, standIns := [], harness := (true, "2f8a0f460be83a2f2d65cf98c4870311c487334b8cf39db395da21dc0a174bec"), looks := false }, kinds := [], alts := [], laidByText := true, laidKinds := [.data, .data, .data], laidTests := true, laidLooks := .later }
def Fp12InverseUptoCardSaid : Prop := Claim7.holds Tryd.pinned (.plain (OpenSpec.upto fp12InverseSpec)) fp12InverseUptoCard

/-- THE SECOND FORM's CARD OF 'sigillaw10.Fp12Conjugates'. -/
def fp12ConjugatesUptoCard : Claim7 := { stood := { row := fp12ConjugatesUptoRow, standIns := [], harness := (true, "2f8a0f460be83a2f2d65cf98c4870311c487334b8cf39db395da21dc0a174bec"), looks := false }, kinds := [], alts := [], laidByText := true, laidKinds := [.data, .data, .data], laidTests := true, laidLooks := .later }
def Fp12ConjugatesUptoCardSaid : Prop := Claim7.holds Tryd.pinned (.plain (OpenSpec.upto fp12ConjugatesSpec)) fp12ConjugatesUptoCard

/-- THE SECOND FORM's CARD OF 'sigillaw10.Fp12Adds'. -/
def fp12AddsUptoCard : Claim7 := { stood := { row := fp12AddsUptoRow, standIns := [], harness := (true, "2f8a0f460be83a2f2d65cf98c4870311c487334b8cf39db395da21dc0a174bec"), looks := false }, kinds := [], alts := [], laidByText := true, laidKinds := [.data, .data, .data], laidTests := true, laidLooks := .later }
def Fp12AddsUptoCardSaid : Prop := Claim7.holds Tryd.pinned (.plain (OpenSpec.upto fp12AddsSpec)) fp12AddsUptoCard

/-- THE SECOND FORM's CARD OF 'sigillaw10.Fp12Within'. -/
def fp12WithinUptoCard : Claim7 := { stood := { row := fp12WithinUptoRow, standIns := [], harness := (true, "2f8a0f460be83a2f2d65cf98c4870311c487334b8cf39db395da21dc0a174bec"), looks := false }, kinds := [], alts := [], laidByText := true, laidKinds := [.data, .data, .data], laidTests := true, laidLooks := .later }
def Fp12WithinUptoCardSaid : Prop := Claim7.holds Tryd.pinned (.plain (OpenSpec.upto fp12WithinSpec)) fp12WithinUptoCard
end Rows
end Go.Proofs.YtiepafeohgpalaaDoor
