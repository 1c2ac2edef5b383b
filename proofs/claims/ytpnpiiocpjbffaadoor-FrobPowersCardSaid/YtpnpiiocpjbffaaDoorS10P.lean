/-
  Own text. Pow of layer 10's landed package by the reckoner.
-/
import Derived.Test.YtpnpiiocpjbffaaDoorS10
import Derived.Test.YtpnpiiocpjbffaaDoorMSx
namespace Go.Proofs.YtpnpiiocpjbffaaDoor.S10P
set_option linter.unusedVariables false
set_option linter.unusedSimpArgs false
open Go Go.RowKit Go.Proofs.YtpnpiiocpjbffaaDoor.Reg Go.Proofs.YtpnpiiocpjbffaaDoor.Base Go.Proofs.YtpnpiiocpjbffaaDoor.Limb Go.Proofs.YtpnpiiocpjbffaaDoor.Sx Go.Proofs.YtpnpiiocpjbffaaDoor.Fp Go.Proofs.YtpnpiiocpjbffaaDoor.Fp2 Go.Proofs.YtpnpiiocpjbffaaDoor.Fp6 Go.Proofs.YtpnpiiocpjbffaaDoor.Fp12

/-- The slice that came in. -/
def Dp (A : Option Addr) (n : Nat) (l : List Int) : Option Addr → Nat → List Int → Prop := fun A' n' l' => A' = A ∧ n' = n ∧ l' = l
abbrev XP (A : Option Addr) (n : Nat) (l : List Int) (H : List (Nat × Ev)) : Cx := S10.X3.sym (Dp A n l) H
/-- The condition: the slice is there. -/
def GP (A : Option Addr) (n : Nat) (l : List Int) (B : Nat) (u : World) : Prop := (GlobD u ∧ B ≤ u.heap.size) ∧ Rd u B A n .u64 l
theorem XP_ok {A : Option Addr} {n : Nat} {l : List Int} {B : Nat} (hw : Words l) (H : List (Nat × Ev)) : CxB Tryd.prog (XP A n l H) (GP A n l B) :=
  S10.X3_ok.toCxB.sym (fun u h => h.1.1) (fun A' n' l' h => by
    obtain ⟨rfl, rfl, rfl⟩ := h
    exact ⟨hw, B, fun u hu => ⟨hu.1.2, hu.2⟩⟩) H
theorem GP.keep {A : Option Addr} {n : Nat} {l : List Int} {B : Nat} {w u : World} (h : GP A n l B w) (hb : RowKit.Below w.heap.size w u) : GP A n l B u := ⟨⟨h.1.1.keep hb, Nat.le_trans h.1.2 hb.size⟩, h.2.keep hb h.1.2⟩
def Z72 : List Int := List.replicate 72 0
end Go.Proofs.YtpnpiiocpjbffaaDoor.S10P
